/- MStB -/
import Derived.Test.YtopamplmpfndlaaEbj
import Derived.Test.YtopamplmpfndlaaEam
set_option maxRecDepth 100000
set_option maxHeartbeats 16000000
namespace Go.Proofs.Ytopamplmpfndlaa.Sm
open Go.RowKit
theorem nl_len : ∀ (l : List Nat) (acc a : List UInt8), nl acc l = some a → acc.length ≤ 12 → a.length ≤ 12
 | [], acc, a, h, k => by simp [nl] at h; rw [← h]; exact k
 | r :: rs, acc, a, h, k => by
  rw [nl_cons] at h
  by_cases h1 : dg r = -2
  ·rw [if_pos h1] at h; exact nl_len rs acc a h k
  ·rw [if_neg h1] at h
   by_cases h2 : dg r = -1 ∨ acc.length = 12
   ·rw [if_pos h2] at h; cases h
   ·rw [if_neg h2] at h
    exact nl_len rs _ a h (by rw [List.length_append]; simp; omega)
theorem nrm_len {l : List Nat} {a : List UInt8} (h : nrm l = some a) : 4 ≤ a.length ∧ a.length ≤ 12 := by
 unfold nrm at h
 cases hn : nl [] l with
 | none => rw [hn] at h; cases h
 | some b =>
  rw [hn] at h
  simp only at h
  by_cases h4 : b.length < 4
  ·rw [if_pos h4] at h; cases h
  ·rw [if_neg h4] at h
   obtain rfl : b = a := by injection h
   exact ⟨by omega, nl_len l [] b hn (by simp)⟩
def pinL (s : ByteArray) (I : List UInt8) : List UInt8 := match nrm (signs s) with
 | none => zeroL
 | some a => digsL a (sumL I) 16
def pinE (s : ByteArray) : Int := match nrm (signs s) with
 | none => 23
 | some _ => 0
theorem sm_isize : (Try.prog.info? 26).map (·.size) = some 4 := by kernel_rfl
theorem wp_ldi {o : Oper} {a : Act} {w : World} {K : Act → World → Prop} {Q : Exit → Act → World → Prop} (x : Operand) (g : Nat) (X : List UInt8) (ho : o.op = .load 26 x) (ha : a.eval x = .pointer (some ⟨g, 0, none⟩)) (hX : X.length = 4) (h : Bk w g 26 (Lib.byteCells X).toArray) (hk : K (a.put o.dst (idV X)) w) : o.wp Try.prog a w K Q := by
 obtain ⟨dd, hd⟩ : ∃ d, Try.prog.underlying 26 = some d ∧ d.isRow = true := ⟨_, Try.underlying26, rfl⟩
 exact wp_load_mid 26 x ho g 0 ha (Lib.byteCells X) dd h.range hd.1 hd.2 (by rw [sm_isize]; simp [Lib.byteCells, hX]) hk
theorem pin_any (s : ByteArray) (I : List UInt8) (hI : I.length = 4) (w : World) :
  Calls Try.prog 67 #[.string s, idV I] w fun e w' => e = .returned (.tuple #[digV (pinL s I), .int .i64 (pinE s)]) ∧ Below w.heap.size w w' := by
 obtain ⟨cs, hcs⟩ : ∃ cs, cs = (Lib.byteCells I).toArray := ⟨_, rfl⟩
 have hv : idV I = .agg cs := by rw [hcs]; rfl
 have x1 : Ex (w.alloc (.cells cs 26)) ((w.alloc (.cells cs 26)).alloc (.cells zero16 36)) := (Below.refl _ _).alloc (Nat.le_refl _) _
 have bw : Below w.heap.size w ((w.alloc (.cells cs 26)).alloc (.cells zero16 36)) := ((Below.refl _ _).alloc (Nat.le_refl _) _).alloc (by simp) _
 have D2 : Hid (Bk ((w.alloc (.cells cs 26)).alloc (.cells zero16 36)) (w.heap.size + 1) 36 zero16) := Lib.hid (Bk.new (by simp) _ _)
 have I2 : Hid (Bk ((w.alloc (.cells cs 26)).alloc (.cells zero16 36)) w.heap.size 26 (Lib.byteCells I).toArray) := by rw [← hcs]; exact Lib.hid ((Bk.new (w := w) rfl 26 cs).ext x1)
 have bz : w.heap.size + 2 ≤ ((w.alloc (.cells cs 26)).alloc (.cells zero16 36)).heap.size := by simp
 have NM := Lib.hid (normal_any s)
 have SA := Lib.hid (fun W => salt_any I hI W)
 have HI := Lib.hid hI
 obtain ⟨X, hX⟩ : ∃ X, X = pinL s I := ⟨_, rfl⟩
 obtain ⟨E, hE⟩ : ∃ E, E = pinE s := ⟨_, rfl⟩
 rw [hv, ← hX, ← hE]
 clear hv hcs x1 hI
 go_enter Try.func67, Try.ntmps67
 go_wp2_with fail
 refine (NM.out _).mono ?_
 rintro e w2 ⟨rfl, hx⟩
 have hx : Ex ((w.alloc (.cells cs 26)).alloc (.cells zero16 36)) w2 := hx
 have D3 := Lib.hid (D2.out.ext hx)
 have I3 := Lib.hid (I2.out.ext hx)
 have bw3 : Below w.heap.size w w2 := bw.trans (hx.mono (by omega))
 have bz3 : w.heap.size + 2 ≤ w2.heap.size := by have := hx.size; omega
 clear D2 I2 bw bz hx NM
 cases hn : nrm (signs s) with
 | none =>
  have e1 : nrmV (signs s) = .tuple #[.string ⟨#[]⟩, .bool false] := by unfold nrmV; rw [hn]
  obtain rfl : X = zeroL := by rw [hX]; unfold pinL; rw [hn]
  obtain rfl : E = 23 := by rw [hE]; unfold pinE; rw [hn]
  rw [e1]
  clear e1 hn hX hE
  go_wp2_with ((with_reducible refine at_any ?_ ?_); (focus go_simp); (refine fun K hK => wp_st _ _ (w.heap.size + 1) zeroL rfl rfl rfl rfl D3.out rfl (fun w4 hd ho => hK _ _ ?_)))
  exact bodyPost_ret (res_dig2 rfl _ _ (w.heap.size + 1) rfl zeroL hd) rfl ⟨rfl, ho.below _ (by omega) _ bw3⟩
 | some a =>
  have e1 : nrmV (signs s) = .tuple #[.string ⟨a.toArray⟩, .bool true] := by unfold nrmV; rw [hn]
  have hl := nrm_len hn
  have hX2 : X = digsL a (sumL I) 16 := by rw [hX]; unfold pinL; rw [hn]
  clear hX
  have hX := hX2
  clear hX2
  obtain rfl : E = 0 := by rw [hE]; unfold pinE; rw [hn]
  have HX := Lib.hid (show X.length = 16 by rw [hX]; exact digsL_len _ _ _)
  rw [e1]
  have DG := Lib.hid (fun W => digits_any ⟨a.toArray⟩ (by show a.toArray.size ≤ _; simp; omega) (sumL I) (sumL_len _) 16 W)
  have DG : Hid (∀ W : World, Calls Try.prog 33 #[.string ⟨a.toArray⟩, digV (sumL I), .int .i64 16] W fun e w' => e = .returned (digV X) ∧ Below W.heap.size W w') := Lib.hid (fun W => by
   have h := DG.out W
   rw [hX]; exact h)
  obtain ⟨sa, hsa⟩ : ∃ sa : ByteArray, sa = ⟨a.toArray⟩ := ⟨_, rfl⟩
  obtain ⟨S, hS⟩ : ∃ S, S = sumL I := ⟨_, rfl⟩
  rw [← hsa, ← hS] at DG
  rw [← hS] at SA
  rw [← hsa]
  clear e1 hn hE hX hl hsa hS
  go_wp2_with ((with_reducible refine at_any ?_ ?_); (focus go_simp); (refine fun K hK => wp_ldi _ _ I rfl rfl HI.out I3.out (hK _ _ ?_)))
  refine (SA.out _).mono ?_
  rintro e w4 ⟨rfl, hx4⟩
  have D4 := Lib.hid (D3.out.ext hx4)
  have bw4 : Below w.heap.size w w4 := bw3.trans (hx4.mono (by omega))
  have bz4 : w.heap.size + 2 ≤ w4.heap.size := by have := hx4.size; omega
  clear D3 I3 bw3 bz3 hx4 SA
  go_wp2_with fail
  refine (DG.out _).mono ?_
  rintro e w5 ⟨rfl, hx5⟩
  have D5 := Lib.hid (D4.out.ext hx5)
  have bw5 : Below w.heap.size w w5 := bw4.trans (hx5.mono (by omega))
  clear D4 bw4 bz4 hx5 DG
  go_wp2_with ((with_reducible refine at_any ?_ ?_); (focus go_simp); (refine fun K hK => wp_st _ _ (w.heap.size + 1) X rfl rfl rfl HX.out D5.out rfl (fun w6 hd ho => hK _ _ ?_)))
  exact bodyPost_ret (res_dig2 rfl _ _ (w.heap.size + 1) rfl X hd) rfl ⟨rfl, ho.below _ (by omega) _ bw5⟩
end Go.Proofs.Ytopamplmpfndlaa.Sm
