/- disks: Get, Pending; Within, Cut -/
import Derived.Test.YtgoiidpcdifojaaLd
namespace Go.Proofs.Ytgoiidpcdifojaa
open Go.RowKit
theorem dk_now_at {d : Dk} {w : World} {g : Nat} (h : d.At w g) (n : Nat) (x : Bool × Sm.Pt) (hx : d.now[n]? = some x) : w.cell? ⟨g, 2 * n, none⟩ = some (.bool x.1) ∧ w.cell? ⟨g, 2 * n + 1, none⟩ = some x.2.V := by
  obtain ⟨h1, h2⟩ := slC_at d.now n x hx
  have k1 := dk_now_range h (2 * n) _ h1
  have k2 := dk_now_range h (2 * n + 1) _ h2
  rw [Nat.zero_add] at k1 k2
  exact ⟨k1, k2⟩
def getB (c : Dc) (n : Nat) : Bool := (c.now.getD n (false, [])).1
def getL (c : Dc) (n : Nat) : List UInt8 := if getB c n = true then (c.now.getD n (false, [])).2 else []
def GetPost (L : List UInt8) (b : Bool) (w : World) (e : Ending) (w' : World) : Prop := ∃ q : Sm.Pt, e = .returned (.tuple #[q.V, .bool b]) ∧ q.l = L ∧ q.In w' w'.heap.size ∧ Ex w w'
theorem ct_now {d : Dk} {c : Dc} (h : d.ct = c) (n : Nat) (x : Bool × Sm.Pt) (hx : d.now[n]? = some x) : c.now.getD n (false, []) = (x.1, x.2.l) := by
  rw [← h]
  show (ctL d.now).getD n (false, []) = _
  unfold ctL
  rw [List.getD_eq_getElem?_getD, List.getElem?_map, hx]; rfl
set_option maxHeartbeats 4000000 in
set_option maxRecDepth 100000 in
theorem get_any (g : Nat) (n : Nat) (hn : n < 10) (c : Dc) (w : World) (h : DK w g c) (hL : (c.now.getD n (false, [])).2.length ≤ 1000000) :
    Calls Try.prog 20 #[.pointer (some ⟨g, 0, none⟩), .int .i64 n] w (GetPost (getL c n) (getB c n) w) := by
  obtain ⟨d, hd, hc⟩ := h
  obtain ⟨⟨tb, p⟩, hx⟩ : ∃ x, d.now[n]? = some x := ⟨_, List.getElem?_eq_getElem (by rw [hd.n10]; exact hn)⟩
  have hcx := ct_now hc n _ hx
  have hB : getB c n = tb := by unfold getB; rw [hcx]
  have hLL : getL c n = if tb = true then p.l else [] := by unfold getL; rw [hB, hcx]
  rw [hcx] at hL
  rw [hB, hLL]
  have CL := Lib.hid (bclone_any p hL w (hd.nin n _ hx))
  have S := Lib.hid (isslot_any (n : Int) w)
  rw [decide_eq_true (by omega : 0 ≤ (n : Int)), decide_eq_true (by omega : (n : Int) < 10)] at S
  obtain ⟨k1, k2⟩ := dk_now_at hd n _ hx
  rw [Nat.mul_comm 2 n] at k1 k2
  have q0 : (0 : Int) ≤ (n : Int) := by omega
  have q1 : (n : Int) < 10 := by omega
  unfold Sm.Pt.V at CL k2
  clear hd hc hx hcx hB hLL hL
  simp only at k1 k2
  cases tb
  · go_enter Try.func20, Try.ntmps20
    go_wp2_with fail
    refine S.out.mono ?_
    rintro e w1 ⟨rfl, rfl⟩
    clear S
    go_wp2_with fail
    go_ret2
    exact ⟨⟨none, 0, []⟩, rfl, rfl, nilB_in _ _, Below.refl _ _⟩
  · go_enter Try.func20, Try.ntmps20
    go_wp2_with fail
    refine S.out.mono ?_
    rintro e w1 ⟨rfl, rfl⟩
    clear S
    go_wp2_with fail
    refine CL.out.mono ?_
    rintro e w2 ⟨q, rfl, hql, hqi, xr⟩
    clear CL k1 k2
    have HQ := Lib.hid hql
    have HI := Lib.hid hqi
    have HX := Lib.hid xr
    clear hql hqi xr
    go_wp2_with fail
    go_ret2
    exact ⟨q, rfl, by rw [HQ.out], HI.out, HX.out⟩
set_option maxHeartbeats 4000000 in
set_option maxRecDepth 100000 in
theorem pending_any (g : Nat) (c : Dc) (w : World) (h : DK w g c) : Calls Try.prog 46 #[.pointer (some ⟨g, 0, none⟩)] w fun e w' => e = .returned (.int .i64 c.pend) ∧ w = w' := by
  obtain ⟨d, hd, hc⟩ := h
  have hp : c.pend = d.pend := by rw [← hc]; rfl
  rw [hp]
  have c40 : w.cell? ⟨g, 40, none⟩ = some (.int .i64 d.pend) := (hd.blk.cell 40).trans (dk_at _ _ (slC20 hd.n10) (slC20 hd.l10) _ 0)
  clear hd hc hp
  go_enter Try.func46, Try.ntmps46
  go_wp2
  go_ret
  exact ⟨rfl, rfl⟩
/-- clavigerbook.Within between 0 and a bound -/
def witI (x : Int) (m : Int) : Int := if 0 ≤ x ∧ x ≤ m then x else if x.tmod (m + 1) < 0 then x.tmod (m + 1) + m + 1 else x.tmod (m + 1)
theorem wit_in (x m : Int) (hm : 0 ≤ m) : 0 ≤ witI x m ∧ witI x m ≤ m := by
  unfold witI
  have h1 := Int.tmod_lt_of_pos x (show 0 < m + 1 by omega)
  have h2 : -(m + 1) < x.tmod (m + 1) := by
    have := Int.lt_tmod_of_pos x (show 0 < m + 1 by omega); omega
  split
  · assumption
  · split <;> omega
set_option maxHeartbeats 4000000 in
set_option maxRecDepth 100000 in
theorem within_any (x m : Int) (hm : 0 ≤ m) (hm1 : m ≤ 1000) (hx : (Lit.int .i64 x).wf = true) (w : World) : Calls Try.prog 15 #[.int .i64 x, .int .i64 0, .int .i64 m] w fun e w' => e = .returned (.int .i64 (witI x m)) ∧ w = w' := by
  have hxx : -9223372036854775808 ≤ x ∧ x ≤ 9223372036854775807 := by
    simp [Lit.wf, IntKind.min, IntKind.max, IntKind.signed, IntKind.bits] at hx; omega
  by_cases h0 : 0 ≤ x
  · by_cases h1 : x ≤ m
    · have e : witI x m = x := if_pos ⟨h0, h1⟩
      rw [e]
      clear hx
      go_enter Try.func15, Try.ntmps15
      go_wp2
      go_ret
      exact ⟨rfl, rfl⟩
    · have t1 := Int.emod_lt_of_pos x (show 0 < m + 1 by omega)
      have t0 : 0 ≤ x % (m + 1) := Int.emod_nonneg _ (by omega)
      have e : witI x m = x % (m + 1) := by unfold witI; rw [if_neg (by omega), Int.tmod_eq_emod_of_nonneg h0, if_neg (by omega)]
      have HE := Lib.hid e
      clear hx e
      have h1' : decide (x ≤ m) = false := by simpa using h1
      go_enter Try.func15, Try.ntmps15
      go_wp2
      go_ret
      exact ⟨by rw [HE.out]; simp, rfl⟩
  · have t1 : -(m + 1) < x.tmod (m + 1) := by
      have := Int.lt_tmod_of_pos x (show 0 < m + 1 by omega); omega
    have t2 : x.tmod (m + 1) ≤ 0 := by
      have := Int.tmod_nonneg (m + 1) (show 0 ≤ -x by omega)
      rw [Int.neg_tmod] at this; omega
    have h0' : decide (0 ≤ x) = false := by simpa using h0
    by_cases ht : x.tmod (m + 1) < 0
    · have e : witI x m = x.tmod (m + 1) + m + 1 := by unfold witI; rw [if_neg (by omega), if_pos ht]
      have HE := Lib.hid e
      clear hx e
      go_enter Try.func15, Try.ntmps15
      go_wp2
      go_ret
      exact ⟨by rw [HE.out]; simp, rfl⟩
    · have e : witI x m = x.tmod (m + 1) := by unfold witI; rw [if_neg (by omega), if_neg ht]
      have HE := Lib.hid e
      clear hx e
      go_enter Try.func15, Try.ntmps15
      go_wp2
      go_ret
      exact ⟨by rw [HE.out]; simp, rfl⟩
theorem bcut_in {p : Sm.Pt} {w : World} {B : Nat} (h : p.In w B) (k : Nat) : (Sm.Pt.mk p.ad p.cap (p.l.take k)).In w B :=
  ⟨by have := h.cap; simp only [List.length_take]; omega, h.nil, fun h0 => by
    simp only [List.length_take] at h0
    obtain ⟨a, o, e, hB, hc⟩ := h.read (by omega)
    refine ⟨a, o, e, hB, fun i hi => ?_⟩
    simp only [List.length_take] at hi
    rw [hc i (by omega)]
    simp only [List.getD, List.getElem?_take]
    rw [if_pos (by omega)]⟩
set_option maxHeartbeats 4000000 in
set_option maxRecDepth 100000 in
theorem cut_any (p : Sm.Pt) (k : Nat) (hk : k ≤ 1000) (hk0 : 0 < k) (hL : p.l.length ≤ 9223372036854775807) (w : World) (hp : p.In w w.heap.size) : Calls Try.prog 16 #[p.V, .int .i64 k] w fun e w' => e = .returned (Sm.Pt.mk p.ad p.cap (p.l.take k)).V ∧ w = w' := by
  obtain ⟨ad, cap, l⟩ := p
  unfold Sm.Pt.V
  simp only at *
  have hcap := hp.cap
  simp only at hcap
  obtain ⟨n, hn⟩ : ∃ n, n = l.length := ⟨_, rfl⟩
  rw [← hn] at hL hcap ⊢
  by_cases h : n ≤ k
  · have e : (l.take k).length = n := by rw [List.length_take]; omega
    rw [e]
    clear hp hn e
    have h' : (n : Int) ≤ (k : Int) := by omega
    go_enter Try.func16, Try.ntmps16
    go_wp2
    go_ret
    exact ⟨rfl, rfl⟩
  · have e : (l.take k).length = k := by rw [List.length_take]; omega
    rw [e]
    obtain ⟨a, ha⟩ : ∃ a, ad = some a := by
      cases had : ad with
      | none => have := hp.nil had; simp only at this; omega
      | some a => exact ⟨a, rfl⟩
    subst ha
    clear hp hn e
    have h' : (k : Int) < (n : Int) := by omega
    have k1 : (k : Int) ≤ (cap : Int) := by omega
    have k2 : (0 : Int) ≤ (k : Int) := by omega
    have k3 : k ≤ cap := by omega
    go_enter Try.func16, Try.ntmps16
    go_wp2
    go_ret
    exact ⟨rfl, rfl⟩
end Go.Proofs.Ytgoiidpcdifojaa
