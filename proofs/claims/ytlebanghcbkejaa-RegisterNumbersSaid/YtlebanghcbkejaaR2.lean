/- walks: the document's own Right; Held, step of both -/
import Derived.Test.YtlebanghcbkejaaR1
namespace Go.Proofs.Ytlebanghcbkejaa
open Go.RowKit
set_option maxHeartbeats 8000000 in
set_option maxRecDepth 100000 in
theorem right_ref (r : Rg) (ok : r.Ok) (w : World) :
    Calls Try.prog 30 #[r.V] w fun e w' => e = .returned (.bool r.right) ∧ Below w.heap.size w w' := by
  obtain ⟨b0, c0, a0, l16⟩ := ok
  obtain ⟨cs, hcs⟩ : ∃ cs, cs = r.C := ⟨_, rfl⟩
  have d0 : cs[0]? = some (.int .u64 r.b) := by rw [hcs]; exact r.at0
  have d1 : cs[1]? = some (.int .u64 r.c) := by rw [hcs]; exact r.at1
  have d2 : cs[2]? = some (.int .u64 r.a) := by rw [hcs]; exact r.at2
  have d19 : cs[19]? = some (.int .i64 r.p) := by rw [hcs]; exact r.at19 l16
  have hr : ((w.alloc (.cells cs.toArray 27)).rangeAt w.heap.size 3 (Lib.byteCells r.l)) := by
    intro j v hv
    have hj : j < 16 := by
      have := (List.getElem?_eq_some_iff.1 hv).1
      rw [byteCells_len] at this; omega
    have := r.atH l16 j hj
    simp [hcs]
    rw [this]; exact hv
  obtain ⟨z, hz⟩ : ∃ z, z = decide (r.l = zeroL) := ⟨_, rfl⟩
  have heq : (Op.equalIn 10000 25 (digV r.l) (.agg #[.int .u8 0, .int .u8 0, .int .u8 0, .int .u8 0, .int .u8 0, .int .u8 0, .int .u8 0, .int .u8 0, .int .u8 0, .int .u8 0, .int .u8 0, .int .u8 0, .int .u8 0, .int .u8 0, .int .u8 0, .int .u8 0])).run Try.prog (w.alloc (.cells cs.toArray 27)) = .ok z (w.alloc (.cells cs.toArray 27)) := by
    rw [hz]; exact eq_digest _ 9998 _ zeroL l16 rfl
  have HZ := Lib.hid hz
  have HC := Lib.hid hcs
  obtain ⟨L, hL⟩ : ∃ L, L = Lib.byteCells r.l := ⟨_, rfl⟩
  have hLl : (Try.prog.info? 25).map (·.size) = some L.length := by rw [Try.size25, hL, byteCells_len, l16]
  unfold digV at heq
  rw [← hL] at heq hr
  have HR := Lib.hid hr
  have HL := Lib.hid hLl
  obtain ⟨d, hd⟩ : ∃ d, Try.prog.underlying 25 = some d ∧ d.isRow = true := ⟨_, Try.underlying25, rfl⟩
  have HD := Lib.hid hd
  clear hd
  have hv : r.V = .agg cs.toArray := by rw [hcs]; rfl
  rw [hv]
  clear hv hz hcs hr hL hLl l16
  go_enter Try.func30, Try.ntmps30
  have hp : r.p = 0 ∨ r.p = 1 ∨ (¬ r.p = 0 ∧ ¬ r.p = 1) := by omega
  obtain ⟨p, hp'⟩ : ∃ p, p = r.p := ⟨_, rfl⟩
  rw [← hp'] at hp d19
  have HP := Lib.hid hp'
  clear hp'
  rcases hp with rfl | rfl | ⟨n0, n1⟩
  all_goals go_wp2_with (
    ((with_reducible refine wpList_at_load ?_ ?_); (focus go_simp); (refine fun K hK => wp_load_mid 25 _ rfl _ 3 rfl _ _ HR.out HD.out.1 HD.out.2 HL.out (hK _ _ ?_))))
  all_goals go_ret
  all_goals refine ⟨ret_eq (congrArg Value.bool ?_), (Below.refl _ _).alloc (Nat.le_refl _) _⟩
  all_goals (have hz := HZ.out; have hp := HP.out; clear HZ HP heq HR HL HD HC; unfold Rg.right; rw [← hz, ← hp]; clear hz hp)
  all_goals (cases z <;> simp <;> first | omega | (simp_all; done) | (intros; simp_all; omega) | (trace_state; fail))

def Rg.held (r : Rg) : Int := if r.right then r.c - r.a else 0
theorem Rg.held_no {r : Rg} (h : r.right = false) : r.held = 0 := by unfold Rg.held; simp [h]
theorem Rg.held_is {r : Rg} (h : r.right = true) : r.held = r.c - r.a ∧ r.a ≤ r.c ∧ r.c - r.a ≤ 8 := by
  refine ⟨by unfold Rg.held; simp [h], ?_⟩
  unfold Rg.right at h
  simp at h
  exact ⟨h.2.2.1, h.2.2.2.1⟩

set_option maxHeartbeats 2000000 in
set_option maxRecDepth 100000 in
theorem held_one (r : Rg) (ok : r.Ok) (w : World) :
    Calls Try.prog 16 #[r.V] w fun e w' => e = .returned (.int .i64 r.held) ∧ Below w.heap.size w w' := by
  have R := Lib.hid (fun w => right_one r ok w)
  obtain ⟨b0, c0, a0, l16⟩ := ok
  obtain ⟨cs, hcs⟩ : ∃ cs, cs = r.C := ⟨_, rfl⟩
  have hv : r.V = .agg cs.toArray := by rw [hcs]; rfl
  have d1 : cs[1]? = some (.int .u64 r.c) := by rw [hcs]; exact r.at1
  have d2 : cs[2]? = some (.int .u64 r.a) := by rw [hcs]; exact r.at2
  have hr : (w.alloc (.cells cs.toArray 27)).rangeAt w.heap.size 0 cs := by
    intro j v hv
    simp; exact hv
  have hsz : (Try.prog.info? 27).map (·.size) = some cs.length := by rw [Try.size27, hcs, r.len l16]
  have HR := Lib.hid hr
  have HS := Lib.hid hsz
  obtain ⟨d, hd⟩ : ∃ d, Try.prog.underlying 27 = some d ∧ d.isRow = true := ⟨_, Try.underlying27, rfl⟩
  have HD := Lib.hid hd
  rw [hv] at R
  rw [hv]
  obtain ⟨q, hq⟩ : ∃ q, q = r.right := ⟨_, rfl⟩
  rw [← hq] at R
  have hh : q = true → r.held = r.c - r.a ∧ r.a ≤ r.c ∧ r.c - r.a ≤ 8 := by intro h; rw [hq] at h; exact r.held_is h
  have hn : q = false → r.held = 0 := by intro h; rw [hq] at h; exact r.held_no h
  have HH := Lib.hid hh
  have HN := Lib.hid hn
  clear hr hsz hd hv hcs hq hh hn l16
  go_enter Try.func16, Try.ntmps16
  go_wp2_with (refine wpList_load_mid rfl 27 _ rfl _ 0 rfl _ _ HR.out HD.out.1 HD.out.2 HS.out ?_)
  refine (R.out _).mono ?_
  rintro e w1 ⟨rfl, b1⟩
  have f1 : w1.cell? ⟨w.heap.size, 1, none⟩ = some (.int .u64 r.c) := (b1.cell (p := ⟨w.heap.size, 1, none⟩) (by simp)).trans (by simpa using d1)
  have f2 : w1.cell? ⟨w.heap.size, 2, none⟩ = some (.int .u64 r.a) := (b1.cell (p := ⟨w.heap.size, 2, none⟩) (by simp)).trans (by simpa using d2)
  have hb : Below w.heap.size w w1 := ((Below.refl _ _).alloc (Nat.le_refl _) _).trans (b1.mono (by simp))
  cases q
  · have h1 := Lib.hid (HN.out rfl)
    go_wp2_with fail
    go_ret
    exact ⟨ret_eq (congrArg (Value.int .i64) h1.out.symm), hb⟩
  · obtain ⟨h1, h2, h3⟩ := HH.out rfl
    have h1 := Lib.hid h1
    have h4 : 0 ≤ r.c - r.a := by omega
    go_wp2_with fail
    go_ret
    exact ⟨ret_eq (congrArg (Value.int .i64) h1.out.symm), hb⟩

set_option maxHeartbeats 2000000 in
set_option maxRecDepth 100000 in
theorem held_ref (r : Rg) (ok : r.Ok) (w : World) :
    Calls Try.prog 31 #[r.V] w fun e w' => e = .returned (.int .i64 r.held) ∧ Below w.heap.size w w' := by
  have R := Lib.hid (fun w => right_ref r ok w)
  obtain ⟨b0, c0, a0, l16⟩ := ok
  obtain ⟨cs, hcs⟩ : ∃ cs, cs = r.C := ⟨_, rfl⟩
  have hv : r.V = .agg cs.toArray := by rw [hcs]; rfl
  have d1 : cs[1]? = some (.int .u64 r.c) := by rw [hcs]; exact r.at1
  have d2 : cs[2]? = some (.int .u64 r.a) := by rw [hcs]; exact r.at2
  have hr : (w.alloc (.cells cs.toArray 27)).rangeAt w.heap.size 0 cs := by
    intro j v hv
    simp; exact hv
  have hsz : (Try.prog.info? 27).map (·.size) = some cs.length := by rw [Try.size27, hcs, r.len l16]
  have HR := Lib.hid hr
  have HS := Lib.hid hsz
  obtain ⟨d, hd⟩ : ∃ d, Try.prog.underlying 27 = some d ∧ d.isRow = true := ⟨_, Try.underlying27, rfl⟩
  have HD := Lib.hid hd
  rw [hv] at R
  rw [hv]
  obtain ⟨q, hq⟩ : ∃ q, q = r.right := ⟨_, rfl⟩
  rw [← hq] at R
  have hh : q = true → r.held = r.c - r.a ∧ r.a ≤ r.c ∧ r.c - r.a ≤ 8 := by intro h; rw [hq] at h; exact r.held_is h
  have hn : q = false → r.held = 0 := by intro h; rw [hq] at h; exact r.held_no h
  have HH := Lib.hid hh
  have HN := Lib.hid hn
  clear hr hsz hd hv hcs hq hh hn l16
  go_enter Try.func31, Try.ntmps31
  go_wp2_with (refine wpList_load_mid rfl 27 _ rfl _ 0 rfl _ _ HR.out HD.out.1 HD.out.2 HS.out ?_)
  refine (R.out _).mono ?_
  rintro e w1 ⟨rfl, b1⟩
  have f1 : w1.cell? ⟨w.heap.size, 1, none⟩ = some (.int .u64 r.c) := (b1.cell (p := ⟨w.heap.size, 1, none⟩) (by simp)).trans (by simpa using d1)
  have f2 : w1.cell? ⟨w.heap.size, 2, none⟩ = some (.int .u64 r.a) := (b1.cell (p := ⟨w.heap.size, 2, none⟩) (by simp)).trans (by simpa using d2)
  have hb : Below w.heap.size w w1 := ((Below.refl _ _).alloc (Nat.le_refl _) _).trans (b1.mono (by simp))
  cases q
  · have h1 := Lib.hid (HN.out rfl)
    go_wp2_with fail
    go_ret
    exact ⟨ret_eq (congrArg (Value.int .i64) h1.out.symm), hb⟩
  · obtain ⟨h1, h2, h3⟩ := HH.out rfl
    have h1 := Lib.hid h1
    have h4 : 0 ≤ r.c - r.a := by omega
    go_wp2_with fail
    go_ret
    exact ⟨ret_eq (congrArg (Value.int .i64) h1.out.symm), hb⟩
end Go.Proofs.Ytlebanghcbkejaa
