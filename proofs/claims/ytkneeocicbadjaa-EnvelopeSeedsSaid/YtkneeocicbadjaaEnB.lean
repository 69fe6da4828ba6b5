/- walks: envelope.Close -/
import Derived.Test.YtkneeocicbadjaaEnA
import Derived.Test.YtkneeocicbadjaaVeE
namespace Go.Proofs.Ytkneeocicbadjaa
open Go.RowKit
def closeL (kl : List UInt8) (s : Int) (b : UInt8) (t : List UInt8) : List UInt8 := numL s ++ sealL (innerL kl s) s [b] t
theorem closeL_len (kl : List UInt8) (s : Int) (b : UInt8) (t : List UInt8) : (closeL kl s b t).length = t.length + 16 := by
  unfold closeL; rw [List.length_append, sealL_len]; simp [numL]; omega
def TupPost (L : List UInt8) (E : Int) (w : World) (e : Ending) (w' : World) : Prop := ∃ r : Pt, e = .returned (.tuple #[r.V, .int .i64 E]) ∧ r.l = L ∧ r.In w' w'.heap.size ∧ Ex w w'
theorem nil_inE (w : World) (B : Nat) : (Pt.mk none 0 []).In w B := ⟨Nat.le_refl _, fun _ => rfl, fun h => by simp at h⟩
theorem OpenPost.tup {R : Option (List UInt8)} {w : World} {e : Ending} {w' : World} (h : OpenPost R w e w') : TupPost (R.getD []) (if R.isSome then 0 else 30) w e w' := by
  cases R with
  | none =>
    obtain ⟨rfl, hx⟩ := h
    exact ⟨⟨none, 0, []⟩, rfl, rfl, nil_inE _ _, hx⟩
  | some t =>
    obtain ⟨r, h1, h2, h3, h4⟩ := h
    exact ⟨r, h1, h2, h3, h4⟩
set_option maxHeartbeats 4000000 in
set_option maxRecDepth 100000 in
theorem close_long (kl : List UInt8) (n : Int) (to : UInt8) (p : Pt) (w : World) (hp : p.In w w.heap.size) (hl : 8176 < p.l.length) (hm : p.l.length ≤ 9223372036854775807) :
    Calls Try.prog 48 #[digV kl, .int .u64 n, .int .u8 to.toNat, p.V] w (TupPost [] 3 w) := by
  obtain ⟨cs, hcs⟩ : ∃ cs, cs = (Lib.byteCells kl).toArray := ⟨_, rfl⟩
  have hv : digV kl = .agg cs := by rw [hcs]; rfl
  have bw : Below w.heap.size w (w.alloc (.cells cs 24)) := (Below.refl _ _).alloc (Nat.le_refl _) _
  obtain ⟨m, hmm⟩ : ∃ m, m = p.l.length := ⟨_, rfl⟩
  have hpv : p.V = .slice p.ad m p.cap := by unfold Pt.V; rw [hmm]
  rw [← hmm] at hl hm
  rw [hv, hpv]
  clear hv hcs hpv hmm hp
  go_enter Try.func48, Try.ntmps48
  go_wp2_with fail
  go_ret2
  exact ⟨⟨none, 0, []⟩, rfl, rfl, nil_inE _ _, bw⟩
set_option maxHeartbeats 4000000 in
set_option maxRecDepth 100000 in
theorem close_any (kl : List UInt8) (hk : kl.length = 16) (n : Int) (n0 : 0 ≤ n) (n1 : n < 18446744073709551616) (to : UInt8) (p : Pt) (w : World) (hp : p.In w w.heap.size) (hl : p.l.length ≤ 8176) :
    Calls Try.prog 48 #[digV kl, .int .u64 n, .int .u8 to.toNat, p.V] w (TupPost (closeL kl n to p.l) 0 w) := by
  obtain ⟨cs, hcs⟩ : ∃ cs, cs = (Lib.byteCells kl).toArray := ⟨_, rfl⟩
  have hv : digV kl = .agg cs := by rw [hcs]; rfl
  have A1 : Hid (DB (w.alloc (.cells cs 24)) w.heap.size kl) := by rw [hcs]; exact Lib.hid (DB.new rfl hk)
  have bw : Below w.heap.size w (w.alloc (.cells cs 24)) := (Below.refl _ _).alloc (Nat.le_refl _) _
  obtain ⟨m, hm'⟩ : ∃ m, m = p.l.length := ⟨_, rfl⟩
  obtain ⟨X, hX⟩ : ∃ X, X = innerL kl n := ⟨_, rfl⟩
  have HX := Lib.hid (show X.length = 16 by rw [hX]; exact innerL_len _ _)
  obtain ⟨S, hS⟩ : ∃ S, S = sealL X n [to] p.l := ⟨_, rfl⟩
  have HR := Lib.hid (show closeL kl n to p.l = numL n ++ S by unfold closeL; rw [hS, hX])
  obtain ⟨ls, hls⟩ : ∃ x, x = S.length := ⟨_, rfl⟩
  have HSl := Lib.hid hls.symm
  have hls2 : ls ≤ 8184 := by rw [hls, hS, sealL_len]; omega
  have NN := Lib.hid (numberP n n0 n1)
  have IN := Lib.hid (fun W => by have h := inner_any kl hk n n0 n1 W; rw [← hX] at h; exact h)
  have SE := Lib.hid (fun (W : World) (r : Pt) (hr : r.l = [to]) (i1 : r.In W W.heap.size) (i2 : p.In W W.heap.size) => by
    have h := seal_any X HX.out n n0 n1 r p W i1 i2 (by rw [hr]; simp) (by omega)
    rw [hr, ← hS] at h
    exact h)
  have HP := Lib.hid (hp.ext bw)
  have hpv : p.V = .slice p.ad m p.cap := by unfold Pt.V; rw [hm']
  rw [← hm'] at hl
  have HPV := Lib.hid hpv
  rw [HR.out, hv, hpv]
  clear hv hcs hm' hpv hp hk hX hS hls
  go_enter Try.func48, Try.ntmps48
  go_wp2_with ((with_reducible refine at_any ?_ ?_); (focus go_simp); (refine fun K hK => wp_ld _ _ kl rfl rfl A1.out (hK _ _ ?_)))
  obtain ⟨w1, hw1⟩ : ∃ w1, w1 = w.alloc (.cells cs 24) := ⟨_, rfl⟩
  rw [← hw1] at A1 bw HP ⊢
  clear hw1
  refine (IN.out _).mono ?_
  rintro e w2 ⟨rfl, x2⟩
  go_wp2_with fail
  obtain ⟨W3, hW3⟩ : ∃ W, W = w2.alloc (.cells #[.int .u8 to.toNat] 5) := ⟨_, rfl⟩
  have x3 : Ex w2 W3 := by rw [hW3]; exact (Below.refl _ _).alloc (Nat.le_refl _) _
  have i3 : (Pt.mk (some ⟨w2.heap.size, 0, none⟩) 1 [to]).In W3 W3.heap.size := by
    have h := lit_pt w2 [to] (0, 0)
    rw [hW3]; exact h
  rw [← hW3]
  have SC := SE.out W3 _ rfl i3 (HP.out.ext (Ex.trans x2 x3))
  rw [HPV.out] at SC
  have SC : Hid (Calls Try.prog 43 #[digV X, .int .u64 n, .slice (some ⟨w2.heap.size, 0, none⟩) 1 1, .slice p.ad m p.cap] W3 (PtPost S W3)) := Lib.hid SC
  have bw3 : Below w.heap.size w W3 := bw.trans ((Ex.trans x2 x3).mono bw.size)
  have bz3 := bw3.size
  clear hW3 x3 i3 x2 SE IN A1 HP bw
  refine SC.out.mono ?_
  rintro e w4 ⟨q, rfl, ql, qi, x4⟩
  have hqv : q.V = .slice q.ad ls q.cap := by unfold Pt.V; rw [ql, HSl.out]
  rw [hqv]
  have QL := Lib.hid ql
  have QI := Lib.hid qi
  have HQV := Lib.hid hqv
  have bw4 : Below w.heap.size w w4 := bw3.trans (x4.mono bz3)
  clear SC x4 bw3 bz3 ql qi hqv
  go_wp2_with fail
  refine (NN.out _).mono ?_
  rintro e w5 ⟨r, rfl, rl, ri, x5⟩
  have hrv : r.V = .slice r.ad 8 r.cap := by unfold Pt.V; rw [rl]; rfl
  rw [hrv]
  have bw5 : Below w.heap.size w w5 := bw4.trans (x5.mono bw4.size)
  have QI := Lib.hid (QI.out.ext x5)
  have x6 : Ex w5 (w5.alloc (.cells #[.slice r.ad 8 r.cap, .slice q.ad ls q.cap] 22)) := (Below.refl _ _).alloc (Nat.le_refl _) _
  have BK := Bk.new (w := w5) rfl 22 #[.slice r.ad 8 r.cap, .slice q.ad ls q.cap]
  have CC := concat_any [r, q] w5.heap.size 2 (w5.alloc (.cells #[.slice r.ad 8 r.cap, .slice q.ad ls q.cap] 22)) BK.lt (by
    intro i y hr
    match i, hr with
    | 0, hr =>
      obtain rfl : r = y := by simpa using hr
      exact ⟨by rw [BK.cell, hrv]; rfl, ri.ext x6⟩
    | 1, hr =>
      obtain rfl : q = y := by simpa using hr
      exact ⟨by rw [BK.cell, HQV.out]; rfl, QI.out.ext x6⟩
    | i + 2, hr => simp at hr) (by simp [flatL, rl, QL.out, numL, HSl.out]; omega) (by simp)
  have eL : flatL [r, q] 2 = numL n ++ S := by simp [flatL, rl, QL.out]
  have CC : Hid (Calls Try.prog 62 #[.slice (some ⟨w5.heap.size, 0, none⟩) 2 2] (w5.alloc (.cells #[.slice r.ad 8 r.cap, .slice q.ad ls q.cap] 22)) (ConcatPost (numL n ++ S) (w5.alloc (.cells #[.slice r.ad 8 r.cap, .slice q.ad ls q.cap] 22)))) := by rw [← eL]; exact Lib.hid CC
  have bw6 : Below w.heap.size w (w5.alloc (.cells #[.slice r.ad 8 r.cap, .slice q.ad ls q.cap] 22)) := bw5.trans (x6.mono bw5.size)
  clear BK eL x6 hrv rl ri QI QL x5 bw4 bw5 NN
  go_wp2_with fail
  refine CC.out.mono ?_
  rintro e w7 ⟨v, rfl, own, x7⟩
  have bw7 : Below w.heap.size w w7 := bw6.trans (x7.mono bw6.size)
  obtain ⟨y, rfl, yl, yi⟩ := own_pt0 own
  obtain ⟨yv, hyv⟩ : ∃ v, v = y.V := ⟨_, rfl⟩
  rw [← hyv]
  have HYV := Lib.hid hyv
  have YL := Lib.hid yl
  have YI := Lib.hid yi
  clear CC own x7 bw6 hyv yl yi
  go_wp2_with fail
  go_ret2
  exact ⟨y, by show Ending.returned (.tuple #[yv, .int .i64 0]) = _; rw [HYV.out], YL.out, YI.out, bw7⟩
end Go.Proofs.Ytkneeocicbadjaa
