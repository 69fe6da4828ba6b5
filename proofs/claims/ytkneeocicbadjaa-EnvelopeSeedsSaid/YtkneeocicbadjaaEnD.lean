/- a letter is opened by whom it is for; known of chapter 5; EnvelopeBack walked -/
import Derived.Test.YtkneeocicbadjaaEnC
import Derived.Test.YtkneeocicbadjaaBlK
namespace Go.Proofs.Ytkneeocicbadjaa
open Go.RowKit
theorem close_take (kl : List UInt8) (s : Int) (b : UInt8) (t : List UInt8) : (closeL kl s b t).take 8 = numL s := by
  unfold closeL
  rw [List.take_append_of_le_length (by simp [numL]), List.take_of_length_le (by simp [numL])]
theorem close_drop (kl : List UInt8) (s : Int) (b : UInt8) (t : List UInt8) : (closeL kl s b t).drop 8 = sealL (innerL kl s) s [b] t := by
  unfold closeL
  rw [List.drop_append_of_le_length (by simp [numL]), List.drop_of_length_le (by simp [numL]), List.nil_append]
theorem unc_close (kl : List UInt8) (s : Int) (s0 : 0 ≤ s) (s1 : s < 18446744073709551616) (b : UInt8) (t : List UInt8) (ht : t.length ≤ 8176) : uncL kl b (closeL kl s b t) = (t, 0) := by
  have hl := closeL_len kl s b t
  unfold uncL
  rw [if_neg (by rw [hl]; omega), if_neg (by rw [hl]; omega), close_take, close_drop, beV_numL s s0 s1, open_seal _ _ _ _ (by simp) (by omega)]
theorem unc_short (kl : List UInt8) (b : UInt8) (t : List UInt8) (ht : t.length < 16) : uncL kl b t = ([], 12) := by
  unfold uncL; rw [if_pos ht]
set_option maxHeartbeats 4000000 in
set_option maxRecDepth 100000 in
theorem known5_any (w : World) :
    Calls Try.prog 51 #[] w fun e w' => e = .returned (.bool true) ∧ Below w.heap.size w w' := by
  have hcv := fun (w : World) (C : Array Value) (n c : Nat) => Lib.run_convert_bytes_const (P := Try.prog) w 22 5 C n c Try.underlying22 Try.underlying5
  have hmk : ∀ w : World, (Instr.makeSlice 22 (.int .i64 15) (.int .i64 15)).run Try.prog w = .ok (.slice (some ⟨w.heap.size, 0, none⟩) 15 15) (w.alloc (.cells #[.int .u8 0, .int .u8 0, .int .u8 0, .int .u8 0, .int .u8 0, .int .u8 0, .int .u8 0, .int .u8 0, .int .u8 0, .int .u8 0, .int .u8 0, .int .u8 0, .int .u8 0, .int .u8 0, .int .u8 0] 5)) := fun _ => by kernel_rfl
  obtain ⟨S, hS⟩ : ∃ S, S = closeL [1, 0, 0, 0, 0, 0, 0, 0, 0, 0, 0, 0, 0, 0, 0, 0] 9 3 [104, 105] := ⟨_, rfl⟩
  have HSl := Lib.hid (show S.length = 18 by rw [hS, closeL_len]; rfl)
  have CE : Hid (∀ (W : World) (p : Pt), p.l = [104, 105] → p.In W W.heap.size → Calls Try.prog 48 #[(.agg #[.int .u8 1, .int .u8 0, .int .u8 0, .int .u8 0, .int .u8 0, .int .u8 0, .int .u8 0, .int .u8 0, .int .u8 0, .int .u8 0, .int .u8 0, .int .u8 0, .int .u8 0, .int .u8 0, .int .u8 0, .int .u8 0]), .int .u64 9, .int .u8 3, p.V] W (TupPost S 0 W)) := Lib.hid (fun W p h1 i1 => by
    have h := close_any [1, 0, 0, 0, 0, 0, 0, 0, 0, 0, 0, 0, 0, 0, 0, 0] rfl 9 (by omega) (by omega) 3 p W i1 (by rw [h1]; decide)
    rw [h1, ← hS] at h
    exact h)
  have O1 : Hid (∀ (W : World) (b : Pt), b.l = S → b.In W W.heap.size → Calls Try.prog 54 #[(.agg #[.int .u8 1, .int .u8 0, .int .u8 0, .int .u8 0, .int .u8 0, .int .u8 0, .int .u8 0, .int .u8 0, .int .u8 0, .int .u8 0, .int .u8 0, .int .u8 0, .int .u8 0, .int .u8 0, .int .u8 0, .int .u8 0]), .int .u8 3, b.V] W (TupPost [104, 105] 0 W)) := Lib.hid (fun W b h1 i1 => by
    have h := eopen_any [1, 0, 0, 0, 0, 0, 0, 0, 0, 0, 0, 0, 0, 0, 0, 0] rfl 3 b W i1 (by rw [h1, HSl.out]; omega)
    rw [h1, hS, unc_close _ _ (by omega) (by omega) _ _ (by decide)] at h
    exact h)
  have O2 : Hid (∀ (W : World) (b : Pt), b.l = List.replicate 15 0 → b.In W W.heap.size → Calls Try.prog 54 #[(.agg #[.int .u8 1, .int .u8 0, .int .u8 0, .int .u8 0, .int .u8 0, .int .u8 0, .int .u8 0, .int .u8 0, .int .u8 0, .int .u8 0, .int .u8 0, .int .u8 0, .int .u8 0, .int .u8 0, .int .u8 0, .int .u8 0]), .int .u8 3, b.V] W (TupPost [] 12 W)) := Lib.hid (fun W b h1 i1 => by
    have h := eopen_any [1, 0, 0, 0, 0, 0, 0, 0, 0, 0, 0, 0, 0, 0, 0, 0] rfl 3 b W i1 (by rw [h1]; simp)
    rw [h1, unc_short _ _ _ (by simp)] at h
    exact h)
  clear hS
  go_enter Try.func51, Try.ntmps51
  go_wp2_with fail
  obtain ⟨W1, hW1⟩ : ∃ W, W = w.alloc (.cells #[.int .u8 104, .int .u8 105] 5 (2, 3)) := ⟨_, rfl⟩
  have x1 : Ex w W1 := by rw [hW1]; exact (Below.refl _ _).alloc (Nat.le_refl _) _
  have i1 : (Pt.mk (some ⟨w.heap.size, 0, none⟩) 2 [104, 105]).In W1 W1.heap.size := by
    have h := lit_pt w [104, 105] (2, 3)
    rw [hW1]; exact h
  rw [← hW1]
  have SC := CE.out W1 _ rfl i1
  have SC : Hid (Calls Try.prog 48 #[(.agg #[.int .u8 1, .int .u8 0, .int .u8 0, .int .u8 0, .int .u8 0, .int .u8 0, .int .u8 0, .int .u8 0, .int .u8 0, .int .u8 0, .int .u8 0, .int .u8 0, .int .u8 0, .int .u8 0, .int .u8 0, .int .u8 0]), .int .u64 9, .int .u8 3, .slice (some ⟨w.heap.size, 0, none⟩) 2 2] W1 (TupPost S 0 W1)) := Lib.hid SC
  clear hW1 i1 CE
  refine SC.out.mono ?_
  rintro e w1 ⟨r, rfl, rl, ri, x3⟩
  have bw1 : Below w.heap.size w w1 := Ex.trans x1 x3
  have hrv : r.V = .slice r.ad 18 r.cap := by unfold Pt.V; rw [rl, HSl.out]
  have OC := O1.out w1 r rl ri
  rw [hrv] at OC ⊢
  have OC := Lib.hid OC
  clear x1 x3 hrv rl ri SC O1
  go_wp2_with fail
  refine OC.out.mono ?_
  rintro e w4 ⟨q, rfl, ql, qi, x4⟩
  have bw4 : Below w.heap.size w w4 := bw1.trans (x4.mono bw1.size)
  have hqv : q.V = .slice q.ad 2 q.cap := by unfold Pt.V; rw [ql]; rfl
  rw [hqv]
  have QL := Lib.hid ql
  have QI := Lib.hid qi
  clear x4 hqv ql qi OC bw1
  go_wp2_with fail
  obtain ⟨W5, hW5⟩ : ∃ W, W = w4.alloc (.cells #[.int .u8 0, .int .u8 0, .int .u8 0, .int .u8 0, .int .u8 0, .int .u8 0, .int .u8 0, .int .u8 0, .int .u8 0, .int .u8 0, .int .u8 0, .int .u8 0, .int .u8 0, .int .u8 0, .int .u8 0] 5) := ⟨_, rfl⟩
  have x5 : Ex w4 W5 := by rw [hW5]; exact (Below.refl _ _).alloc (Nat.le_refl _) _
  have i5 : (Pt.mk (some ⟨w4.heap.size, 0, none⟩) 15 (List.replicate 15 0)).In W5 W5.heap.size := by
    have h := lit_pt w4 (List.replicate 15 0) (0, 0)
    rw [hW5]; exact h
  rw [← hW5]
  have OC := O2.out W5 _ rfl i5
  have OC : Hid (Calls Try.prog 54 #[(.agg #[.int .u8 1, .int .u8 0, .int .u8 0, .int .u8 0, .int .u8 0, .int .u8 0, .int .u8 0, .int .u8 0, .int .u8 0, .int .u8 0, .int .u8 0, .int .u8 0, .int .u8 0, .int .u8 0, .int .u8 0, .int .u8 0]), .int .u8 3, .slice (some ⟨w4.heap.size, 0, none⟩) 15 15] W5 (TupPost [] 12 W5)) := Lib.hid OC
  have bw5 : Below w.heap.size w W5 := bw4.trans (x5.mono bw4.size)
  have QI := Lib.hid (QI.out.ext x5)
  have bz5 := bw5.size
  clear hW5 x5 i5 O2 bw4
  refine OC.out.mono ?_
  rintro e w7 ⟨y, rfl, yl, yi, x7⟩
  have bw7 : Below w.heap.size w w7 := bw5.trans (x7.mono bz5)
  have cv := pt_conv q w7 (QI.out.ext x7)
  rw [QL.out] at cv
  have cv : (convert 22 9 (.slice q.ad 2 q.cap)).run Try.prog w7 = .ok (.string ⟨#[104, 105]⟩) w7 := cv
  generalize y.V = yv
  clear x7 QI QL bw5 bz5 OC hcv yl yi hmk
  go_wp2_with fail
  go_ret
  exact ⟨rfl, bw7⟩
set_option maxHeartbeats 4000000 in
set_option maxRecDepth 100000 in
theorem eback_any (kl : List UInt8) (hkl : kl.length = 16) (n : Int) (n0 : 0 ≤ n) (n1 : n < 18446744073709551616) (to : UInt8) (t0 : Pt) (w : World) (ht0 : t0.In w w.heap.size) (hmt : t0.l.length ≤ 9223372036854775807) :
    Calls Try.prog 18 #[digV kl, .int .u64 n, .int .u8 to.toNat, t0.V] w fun e w' => e = .returned (.bool true) ∧ Below w.heap.size w w' := by
  obtain ⟨cs, hcs⟩ : ∃ cs, cs = (Lib.byteCells kl).toArray := ⟨_, rfl⟩
  have hv : digV kl = .agg cs := by rw [hcs]; rfl
  have HA : Hid (DB (w.alloc (.cells cs 24)) w.heap.size kl) := by rw [hcs]; exact Lib.hid (DB.new rfl hkl)
  have bw : Below w.heap.size w (w.alloc (.cells cs 24)) := (Below.refl _ _).alloc (Nat.le_refl _) _
  obtain ⟨TX, hTX⟩ : ∃ A, A = t0.l.take 300 := ⟨_, rfl⟩
  have hTl : TX.length ≤ 300 := by rw [hTX, List.length_take]; omega
  obtain ⟨S, hS⟩ : ∃ S, S = closeL kl n to TX := ⟨_, rfl⟩
  obtain ⟨lt, hlt⟩ : ∃ x, x = TX.length := ⟨_, rfl⟩
  obtain ⟨ls, hls⟩ : ∃ x, x = lt + 16 := ⟨_, rfl⟩
  have HSl := Lib.hid (show S.length = ls by rw [hS, closeL_len, hls, hlt])
  have hls8 : (ls : Int) = (lt : Int) + 16 := by omega
  have HTl := Lib.hid hlt.symm
  have hlb : lt ≤ 300 := by omega
  have CE := Lib.hid (show ∀ (W : World) (p : Pt), p.l = TX → p.In W W.heap.size → Calls Try.prog 48 #[digV kl, .int .u64 n, .int .u8 to.toNat, p.V] W (TupPost S 0 W) from fun W p h1 i1 => by
    have h := close_any kl hkl n n0 n1 to p W i1 (by rw [h1]; omega)
    rw [h1, ← hS] at h
    exact h)
  have O1 := Lib.hid (show ∀ (W : World) (b : Pt), b.l = S → b.In W W.heap.size → Calls Try.prog 54 #[digV kl, .int .u8 to.toNat, b.V] W (TupPost TX 0 W) from fun W b h1 i1 => by
    have h := eopen_any kl hkl to b W i1 (by rw [h1, HSl.out]; omega)
    rw [h1, hS, unc_close _ _ n0 n1 _ _ (by omega)] at h
    exact h)
  have SD := Lib.hid (show ∀ (W : World) (b : Pt), b.l = S → b.In W W.heap.size → Calls Try.prog 55 #[b.V] W fun e w' => e = .returned (.int .u64 n) ∧ W = w' from fun W b h1 i1 => by
    have h := rseed_any b (by rw [h1, HSl.out]; omega) W i1
    rw [h1, hS, close_take, beV_numL n n0 n1] at h
    exact h)
  have C2 := Lib.hid (cut_any t0 300 (by omega) _ (ht0.ext bw) hmt)
  rw [← hTX] at C2
  obtain ⟨tv, htv⟩ : ∃ v, v = t0.V := ⟨_, rfl⟩
  rw [← htv] at C2
  have bz := bw.size
  rw [hv, ← htv]
  clear hv hcs hTX hTl hS hlt hls htv ht0 hmt hkl
  go_enter Try.func18, Try.ntmps18
  go_wp2_with fail
  obtain ⟨w1, hw1⟩ : ∃ w1, w1 = w.alloc (.cells cs 24) := ⟨_, rfl⟩
  rw [← hw1] at HA bw bz C2 ⊢
  clear hw1
  refine C2.out.mono ?_
  rintro e w3 ⟨⟨t, rfl, htl, hti⟩, rfl⟩
  have htV : t.V = .slice t.ad lt t.cap := by unfold Pt.V; rw [htl, HTl.out]
  have SC := CE.out w3 t htl hti
  rw [htV] at SC ⊢
  have SC := Lib.hid SC
  have HTL := Lib.hid htl
  have HTI := Lib.hid hti
  clear htV htl hti C2 CE
  go_wp2_with ((with_reducible refine at_any ?_ ?_); (focus go_simp); (refine fun K hK => wp_ld _ _ kl rfl rfl HA.out (hK _ _ ?_)))
  refine SC.out.mono ?_
  rintro e w4 ⟨r, rfl, rl, ri, x4⟩
  have hrv : r.V = .slice r.ad ls r.cap := by unfold Pt.V; rw [rl, HSl.out]
  have HA4 := Lib.hid (HA.out.ext x4)
  have HTI4 := Lib.hid (HTI.out.ext x4)
  have bw4 : Below w.heap.size w w4 := bw.trans (x4.mono bz)
  have OC := O1.out w4 r rl ri
  rw [hrv] at OC ⊢
  have OC := Lib.hid OC
  have bz4 := bw4.size
  have RL := Lib.hid rl
  have RI := Lib.hid ri
  have RV := Lib.hid hrv
  clear SC HA HTI bw bz O1 rl ri hrv x4
  go_wp2_with ((with_reducible refine at_any ?_ ?_); (focus go_simp); (refine fun K hK => wp_ld _ _ kl rfl rfl HA4.out (hK _ _ ?_)))
  refine OC.out.mono ?_
  rintro e w5 ⟨q, rfl, ql, qi, x5⟩
  have hqv : q.V = .slice q.ad lt q.cap := by unfold Pt.V; rw [ql, HTl.out]
  rw [hqv]
  have bw5 : Below w.heap.size w w5 := bw4.trans (x5.mono bz4)
  have cv := pt_conv q w5 qi
  rw [ql, HTl.out] at cv
  have cv2 := pt_conv t w5 (HTI4.out.ext x5)
  rw [HTL.out, HTl.out] at cv2
  have SK := SD.out w5 r RL.out (RI.out.ext x5)
  rw [RV.out] at SK
  have SK := Lib.hid SK
  have KN := Lib.hid (known5_any w5)
  clear OC HA4 HTI4 bw4 bz4 hqv ql qi x5 HTL RL RI RV SD
  generalize strL TX = s1 at cv cv2
  go_wp2_with fail
  refine SK.out.mono ?_
  rintro e w6 ⟨rfl, rfl⟩
  go_wp2_with fail
  refine KN.out.mono ?_
  rintro e w6 ⟨rfl, x6⟩
  have bw6 : Below w.heap.size w w6 := bw5.trans (x6.mono bw5.size)
  clear x6 KN
  go_wp2_with fail
  go_ret
  exact ⟨rfl, bw6⟩
theorem envelopeBack_law (v0 : Value) (n d : Int) (v3 : Value) (w : World) (h0 : ∃ l : List UInt8, l.length = 16 ∧ v0 = digV l) (h1 : (Lit.int .u64 n).wf = true) (h2 : (Lit.int .u8 d).wf = true)
    (h3 : ∃ p : Pt, v3 = p.V ∧ p.In w w.heap.size ∧ p.l.length ≤ 9223372036854775807) :
    Calls Try.prog 18 #[v0, .int .u64 n, .int .u8 d, v3] w fun e w' => e = .returned (.bool true) ∧ Below w.heap.size w w' := by
  obtain ⟨A, hA, rfl⟩ := h0
  obtain ⟨q, rfl, hq, hq2⟩ := h3
  have r1 : 0 ≤ n ∧ n < 18446744073709551616 := by simp [Lit.wf, IntKind.min, IntKind.max, IntKind.signed, IntKind.bits] at h1; omega
  have r8 : 0 ≤ d ∧ d < 256 := by simp [Lit.wf, IntKind.min, IntKind.max, IntKind.signed, IntKind.bits] at h2; omega
  have h := eback_any A hA n r1.1 r1.2 (by8 d) q w hq hq2
  rw [by8_int, Int.emod_eq_of_lt r8.1 r8.2] at h
  exact h
end Go.Proofs.Ytkneeocicbadjaa
