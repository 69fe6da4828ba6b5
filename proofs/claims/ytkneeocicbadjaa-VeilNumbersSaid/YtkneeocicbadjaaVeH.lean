/- walks: open of both -/
import Derived.Test.YtkneeocicbadjaaVeG
namespace Go.Proofs.Ytkneeocicbadjaa
open Go.RowKit
theorem nil_in' (w : World) (B : Nat) : (Pt.mk none 0 []).In w B := ⟨Nat.le_refl _, fun _ => rfl, fun h => by simp at h⟩
set_option maxHeartbeats 4000000 in
set_option maxRecDepth 100000 in
theorem lopen_any (kl : List UInt8) (hk : kl.length = 16) (n : Int) (n0 : 0 ≤ n) (n1 : n < 18446744073709551616) (p b : Pt) (w : World) (hp : p.In w w.heap.size) (hb : b.In w w.heap.size) :
    Calls Try.prog 45 #[digV kl, .int .u64 n, p.V, b.V] w fun e w' => e = .returned (.bool true) ∧ Below w.heap.size w w' := by
  obtain ⟨cs, hcs⟩ : ∃ cs, cs = (Lib.byteCells kl).toArray := ⟨_, rfl⟩
  have hv : digV kl = .agg cs := by rw [hcs]; rfl
  have A1 : Hid (DB (w.alloc (.cells cs 24)) w.heap.size kl) := by rw [hcs]; exact Lib.hid (DB.new rfl hk)
  have bw : Below w.heap.size w (w.alloc (.cells cs 24)) := (Below.refl _ _).alloc (Nat.le_refl _) _
  obtain ⟨R, hR⟩ : ∃ R, R = openL kl n p.l b.l := ⟨_, rfl⟩
  obtain ⟨pv, hpv⟩ : ∃ v, v = p.V := ⟨_, rfl⟩
  obtain ⟨bv, hbv⟩ : ∃ v, v = b.V := ⟨_, rfl⟩
  have OC := Lib.hid (fun (W : World) (h1 : p.In W W.heap.size) (h2 : b.In W W.heap.size) => by have h := open_any kl hk n n0 n1 p b W h1 h2; rw [← hR, ← hpv, ← hbv] at h; exact h)
  have RC := Lib.hid (fun (W : World) (h1 : p.In W W.heap.size) (h2 : b.In W W.heap.size) => by have h := ropen_any kl hk n n0 n1 p b W h1 h2; rw [← hR, ← hpv, ← hbv] at h; exact h)
  have HP := Lib.hid (hp.ext bw)
  have HB := Lib.hid (hb.ext bw)
  rw [hv, ← hpv, ← hbv]
  clear hv hcs hp hb hk hR hpv hbv
  go_enter Try.func45, Try.ntmps45
  go_wp2_with ((with_reducible refine at_any ?_ ?_); (focus go_simp); (refine fun K hK => wp_ld _ _ kl rfl rfl A1.out (hK _ _ ?_)))
  obtain ⟨w1, hw1⟩ : ∃ w1, w1 = w.alloc (.cells cs 24) := ⟨_, rfl⟩
  rw [← hw1] at A1 bw HP HB ⊢
  clear hw1
  cases R with
  | none =>
    refine (OC.out w1 HP.out HB.out).mono ?_
    rintro e w2 ⟨rfl, x2⟩
    have A2 := Lib.hid (A1.out.ext x2)
    have R2 := Lib.hid (RC.out w2 (HP.out.ext x2) (HB.out.ext x2))
    have bw2 : Below w.heap.size w w2 := bw.trans (x2.mono bw.size)
    clear A1 OC RC HP HB bw x2
    go_wp2_with ((with_reducible refine at_any ?_ ?_); (focus go_simp); (refine fun K hK => wp_ld _ _ kl rfl rfl A2.out (hK _ _ ?_)))
    refine R2.out.mono ?_
    rintro e w3 ⟨rfl, x3⟩
    have bw3 : Below w.heap.size w w3 := bw2.trans (x3.mono bw2.size)
    have cv := pt_conv _ w3 (nil_in' w3 0)
    have cv : (convert 22 9 (.slice none 0 0)).run Try.prog w3 = .ok (.string (strL [])) w3 := cv
    generalize strL [] = s1 at cv
    clear R2 A2 bw2 x3
    go_wp2_with fail
    go_ret
    exact ⟨rfl, bw3⟩
  | some t =>
    obtain ⟨lt, hlt⟩ : ∃ x, x = t.length := ⟨_, rfl⟩
    have HT := Lib.hid hlt.symm
    clear hlt
    refine (OC.out w1 HP.out HB.out).mono ?_
    rintro e w2 ⟨r, rfl, rl, ri, x2⟩
    have hrv : r.V = .slice r.ad lt r.cap := by unfold Pt.V; rw [rl, HT.out]
    rw [hrv]
    have RL := Lib.hid rl
    have RI := Lib.hid ri
    have A2 := Lib.hid (A1.out.ext x2)
    have R2 := Lib.hid (RC.out w2 (HP.out.ext x2) (HB.out.ext x2))
    have bw2 : Below w.heap.size w w2 := bw.trans (x2.mono bw.size)
    clear A1 OC RC HP HB bw x2 hrv rl ri
    go_wp2_with ((with_reducible refine at_any ?_ ?_); (focus go_simp); (refine fun K hK => wp_ld _ _ kl rfl rfl A2.out (hK _ _ ?_)))
    refine R2.out.mono ?_
    rintro e w3 ⟨q, rfl, ql, qi, x3⟩
    have hqv : q.V = .slice q.ad lt q.cap := by unfold Pt.V; rw [ql, HT.out]
    rw [hqv]
    have bw3 : Below w.heap.size w w3 := bw2.trans (x3.mono bw2.size)
    have cv := pt_conv r w3 (RI.out.ext x3)
    rw [RL.out, HT.out] at cv
    have cv2 := pt_conv q w3 qi
    rw [ql, HT.out] at cv2
    generalize strL t = s1 at cv cv2
    clear R2 A2 bw2 x3 hqv ql qi RL RI HT
    go_wp2_with fail
    go_ret
    exact ⟨rfl, bw3⟩
end Go.Proofs.Ytkneeocicbadjaa
