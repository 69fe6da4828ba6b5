/- walks: VeilBack -/
import Derived.Test.YtkneeocicbadjaaVeE
import Derived.Test.YtkneeocicbadjaaBlK
namespace Go.Proofs.Ytkneeocicbadjaa
open Go.RowKit
set_option maxHeartbeats 4000000 in
set_option maxRecDepth 100000 in
theorem vback_any (kl : List UInt8) (hkl : kl.length = 16) (n : Int) (n0 : 0 ≤ n) (n1 : n < 18446744073709551616) (a0 t0 : Pt) (w : World) (ha0 : a0.In w w.heap.size) (ht0 : t0.In w w.heap.size) (hma : a0.l.length ≤ 9223372036854775807) (hmt : t0.l.length ≤ 9223372036854775807) :
    Calls Try.prog 14 #[digV kl, .int .u64 n, a0.V, t0.V] w fun e w' => e = .returned (.bool true) ∧ Below w.heap.size w w' := by
  obtain ⟨cs, hcs⟩ : ∃ cs, cs = (Lib.byteCells kl).toArray := ⟨_, rfl⟩
  have hv : digV kl = .agg cs := by rw [hcs]; rfl
  have HA : Hid (DB (w.alloc (.cells cs 24)) w.heap.size kl) := by rw [hcs]; exact Lib.hid (DB.new rfl hkl)
  have bw : Below w.heap.size w (w.alloc (.cells cs 24)) := (Below.refl _ _).alloc (Nat.le_refl _) _
  obtain ⟨A, hA⟩ : ∃ A, A = a0.l.take 100 := ⟨_, rfl⟩
  obtain ⟨TX, hTX⟩ : ∃ A, A = t0.l.take 400 := ⟨_, rfl⟩
  have hAl : A.length ≤ 100 := by rw [hA, List.length_take]; omega
  have hTl : TX.length ≤ 400 := by rw [hTX, List.length_take]; omega
  obtain ⟨S, hS⟩ : ∃ S, S = sealL kl n A TX := ⟨_, rfl⟩
  obtain ⟨lt, hlt⟩ : ∃ x, x = TX.length := ⟨_, rfl⟩
  obtain ⟨ls, hls⟩ : ∃ x, x = lt + 8 := ⟨_, rfl⟩
  have HSl := Lib.hid (show S.length = ls by rw [hS, sealL_len, hls, hlt])
  have hls8 : (ls : Int) = (lt : Int) + 8 := by omega
  have HTl := Lib.hid hlt.symm
  have hlb : lt ≤ 400 := by omega
  have SE := Lib.hid (show ∀ (W : World) (p q : Pt), p.l = A → q.l = TX → p.In W W.heap.size → q.In W W.heap.size → Calls Try.prog 43 #[digV kl, .int .u64 n, p.V, q.V] W (PtPost S W) from fun W p q h1 h2 i1 i2 => by
    have h := seal_any kl hkl n n0 n1 p q W i1 i2 (by rw [h1]; omega) (by rw [h2]; omega)
    rw [h1, h2, ← hS] at h
    exact h)
  have O1 := Lib.hid (show ∀ (W : World) (p b : Pt), p.l = A → b.l = S → p.In W W.heap.size → b.In W W.heap.size → Calls Try.prog 47 #[digV kl, .int .u64 n, p.V, b.V] W (OpenPost (some TX) W) from fun W p b h1 h2 i1 i2 => by
    have h := open_any kl hkl n n0 n1 p b W i1 i2
    rw [h1, h2, hS, open_seal _ _ _ _ (by omega) (by omega)] at h
    exact h)
  have C1 := Lib.hid (cut_any a0 100 (by omega) _ (ha0.ext bw) hma)
  have C2 := Lib.hid (cut_any t0 400 (by omega) _ (ht0.ext bw) hmt)
  rw [← hA] at C1
  rw [← hTX] at C2
  obtain ⟨av, hav⟩ : ∃ v, v = a0.V := ⟨_, rfl⟩
  obtain ⟨tv, htv⟩ : ∃ v, v = t0.V := ⟨_, rfl⟩
  rw [← hav] at C1
  rw [← htv] at C2
  have bz := bw.size
  rw [hv, ← hav, ← htv]
  clear hv hcs hA hTX hAl hTl hS hlt hls hav htv ha0 ht0 hma hmt hkl
  go_enter Try.func14, Try.ntmps14
  go_wp2_with fail
  obtain ⟨w1, hw1⟩ : ∃ w1, w1 = w.alloc (.cells cs 24) := ⟨_, rfl⟩
  rw [← hw1] at HA bw bz C1 C2 ⊢
  clear hw1
  refine C1.out.mono ?_
  rintro e w2 ⟨⟨a, rfl, hal, hai⟩, rfl⟩
  obtain ⟨aV, haV⟩ : ∃ v, v = a.V := ⟨_, rfl⟩
  rw [← haV]
  have HAV := Lib.hid haV
  have HAL := Lib.hid hal
  have HAI := Lib.hid hai
  clear haV hal hai C1
  go_wp2_with fail
  refine C2.out.mono ?_
  rintro e w3 ⟨⟨t, rfl, htl, hti⟩, rfl⟩
  have htV : t.V = .slice t.ad lt t.cap := by unfold Pt.V; rw [htl, HTl.out]
  rw [htV]
  have HTV := Lib.hid htV
  have HTL := Lib.hid htl
  have HTI := Lib.hid hti
  clear htV htl hti C2
  go_wp2_with ((with_reducible refine at_any ?_ ?_); (focus go_simp); (refine fun K hK => wp_ld _ _ kl rfl rfl HA.out (hK _ _ ?_)))
  have SC := SE.out w3 a t HAL.out HTL.out HAI.out HTI.out
  rw [← HAV.out, HTV.out] at SC
  have SC := Lib.hid SC
  clear SE
  refine SC.out.mono ?_
  rintro e w4 ⟨r, rfl, rl, ri, x4⟩
  have hrv : r.V = .slice r.ad ls r.cap := by unfold Pt.V; rw [rl, HSl.out]
  rw [hrv]
  have HA4 := Lib.hid (HA.out.ext x4)
  have HAI4 := HAI.out.ext x4
  have HTI4 := Lib.hid (HTI.out.ext x4)
  have bw4 : Below w.heap.size w w4 := bw.trans (x4.mono bz)
  have OC := O1.out w4 a r HAL.out rl HAI4 ri
  rw [← HAV.out, hrv] at OC
  have OC := Lib.hid OC
  have bz4 := bw4.size
  clear SC HA HAI HTI bw bz O1 rl ri hrv HAI4 x4
  go_wp2_with ((with_reducible refine at_any ?_ ?_); (focus go_simp); (refine fun K hK => wp_ld _ _ kl rfl rfl HA4.out (hK _ _ ?_)))
  refine OC.out.mono ?_
  rintro e w5 ⟨q, rfl, ql, qi, x5⟩
  have hqv : q.V = .slice q.ad lt q.cap := by unfold Pt.V; rw [ql, HTl.out]
  rw [hqv]
  have bw5 : Below w.heap.size w w5 := bw4.trans (x5.mono bz4)
  have cv := pt_conv q w5 qi
  rw [ql, HTl.out] at cv
  have cv2 := pt_conv t w5 (HTI4.out.ext x5)
  rw [HTL.out, HTl.out] at cv2
  have KN := Lib.hid (known4_any w5)
  clear OC HA4 HTI4 bw4 bz4 hqv ql qi x5 HTL HTV HAL HAV
  generalize strL TX = s1 at cv cv2
  go_wp2_with fail
  refine KN.out.mono ?_
  rintro e w6 ⟨rfl, x6⟩
  have bw6 : Below w.heap.size w w6 := bw5.trans (x6.mono bw5.size)
  clear x6 KN
  go_wp2_with fail
  go_ret
  exact ⟨rfl, bw6⟩
theorem veilBack_law (v0 : Value) (n : Int) (v2 v3 : Value) (w : World) (h0 : ∃ l : List UInt8, l.length = 16 ∧ v0 = digV l) (h1 : (Lit.int .u64 n).wf = true)
    (h2 : ∃ p : Pt, v2 = p.V ∧ p.In w w.heap.size ∧ p.l.length ≤ 9223372036854775807) (h3 : ∃ p : Pt, v3 = p.V ∧ p.In w w.heap.size ∧ p.l.length ≤ 9223372036854775807) :
    Calls Try.prog 14 #[v0, .int .u64 n, v2, v3] w fun e w' => e = .returned (.bool true) ∧ Below w.heap.size w w' := by
  obtain ⟨A, hA, rfl⟩ := h0
  obtain ⟨p, rfl, hp, hp2⟩ := h2
  obtain ⟨q, rfl, hq, hq2⟩ := h3
  have r1 : 0 ≤ n ∧ n < 18446744073709551616 := by simp [Lit.wf, IntKind.min, IntKind.max, IntKind.signed, IntKind.bits] at h1; omega
  exact vback_any A hA n r1.1 r1.2 p q w hp hq hp2 hq2
end Go.Proofs.Ytkneeocicbadjaa
