/- slices.Index, Contains, Equal; roster.Has, Majority, Same -/
import Derived.Test.YtgoiidpcdifojaaRoB
import Derived.Deep.QuietTactic
import Derived.BigQuiet
namespace Go.Proofs.Ytgoiidpcdifojaa
open Go.RowKit
theorem mem_at {l : List Int} {i : Nat} (h : i < l.length) : l.getD i 0 ∈ l := by
  simp [List.getD, h]
theorem mem_not {l : List Int} {x : Int} (h : ∀ j, j < l.length → l.getD j 0 ≠ x) : ¬ x ∈ l := by
  intro hm
  obtain ⟨i, hi, e⟩ := List.getElem_of_mem hm
  exact h i hi (by simp [List.getD, hi, e])
def IdxPost (l : List Int) (x : Int) (w : World) (e : Ending) (w' : World) : Prop := ∃ z : Int, e = .returned (.int .i64 z) ∧ decide (0 ≤ z) = decide (x ∈ l) ∧ w = w'
set_option maxHeartbeats 2000000 in
set_option maxRecDepth 100000 in
theorem index_any (p : Pt) (x : Int) (w : World) (hp : p.In w w.heap.size) (hL : p.l.length ≤ 9223372036854775807) : Calls Try.prog 64 #[p.V, .int .i64 x] w (IdxPost p.l x w) := by
  obtain ⟨ad, cap, l⟩ := p
  unfold Pt.V
  simp only
  have hr := hp.read
  simp only at hr
  clear hp
  obtain ⟨n, hn⟩ : ∃ n, n = l.length := ⟨_, rfl⟩
  have HN := Lib.hid hn
  rw [← hn] at hr ⊢
  simp only at hL
  rw [← hn] at hL
  have HR := Lib.hid hr
  clear hr hn
  go_enter Try.func64, Try.ntmps64
  go_wp2
  go_loop [8] (fun i => ∃ k : Nat, k ≤ n ∧ i = .int .i64 k ∧ Hid (∀ j, j < k → l.getD j 0 ≠ x)) (fun i => n - (intOf i).toNat)
  case atStart => exact ⟨0, by omega, rfl, Lib.hid fun j hj => by omega⟩
  case round =>
    obtain ⟨k, hk, rfl, ok⟩ := hrel
    by_cases hlt : k < n
    · obtain ⟨a, o, rfl, hlt1, hc⟩ := HR.out (by omega)
      have q0 : (0 : Int) ≤ (k : Int) := by omega
      have q1 : (k : Int) < (n : Int) := by omega
      have cx := hc k hlt
      obtain ⟨y, hy⟩ : ∃ x, x = l.getD k 0 := ⟨_, rfl⟩
      rw [← hy] at cx
      have HY := Lib.hid hy
      clear hy hc
      by_cases e : x = y
      · have R := Lib.hid (show x ∈ l by rw [e, HY.out]; exact mem_at (by rw [← HN.out]; exact hlt))
        have e1 : (x == y) = true := by simpa using e
        clear e
        go_wp2
        go_ret
        exact ⟨(k : Int), rfl, by rw [decide_eq_true R.out, decide_eq_true q0], rfl⟩
      · have e1 : (x == y) = false := by simpa using e
        have ok' : Hid (∀ j, j < k + 1 → l.getD j 0 ≠ x) := Lib.hid fun j hj => by
          by_cases e2 : j = k
          · subst e2; rw [← HY.out]; exact fun h => e h.symm
          · exact ok.out j (by omega)
        clear e
        go_wp2
        go_round
        case rel => exact ⟨k + 1, by omega, by go_num, ok'⟩
        case measure => simp [intOf]; omega
    · obtain rfl : k = n := by omega
      have R := Lib.hid (mem_not (l := l) (x := x) (fun j hj => ok.out j (by rw [HN.out]; exact hj)))
      go_wp2
      go_ret
      exact ⟨-1, rfl, by rw [decide_eq_false R.out]; rfl, rfl⟩
set_option maxHeartbeats 2000000 in
set_option maxRecDepth 100000 in
theorem contains_any (p : Pt) (x : Int) (w : World) (hp : p.In w w.heap.size) (hL : p.l.length ≤ 9223372036854775807) : Calls Try.prog 53 #[p.V, .int .i64 x] w fun e w' => e = .returned (.bool (decide (x ∈ p.l))) ∧ w = w' := by
  have I := Lib.hid (index_any p x w hp hL)
  generalize p.V = pv at I ⊢
  go_enter Try.func53, Try.ntmps53
  go_wp2_with fail
  refine I.out.mono ?_
  rintro e w1 ⟨z, rfl, hz, rfl⟩
  have HZ := Lib.hid hz
  clear hz I
  go_wp2_with fail
  go_ret
  exact ⟨ret_eq (congrArg Value.bool HZ.out), rfl⟩
def hasB (v : Int) (l : List Int) (x : Int) : Bool := rightB v l && decide (x ∈ l)
set_option maxHeartbeats 2000000 in
set_option maxRecDepth 100000 in
theorem has_any (v : Int) (p : Pt) (x : Int) (w : World) (hp : p.In w w.heap.size) :
    Calls Try.prog 36 #[LV v p, .int .i64 x] w fun e w' => e = .returned (.bool (hasB v p.l x)) ∧ Below w.heap.size w w' := by
  have hx : ∀ W : World, Ex w W → p.In W W.heap.size := fun W h => (hp.keep h).more h.size
  have R := Lib.hid (fun W h => right_any v p W (hx W h))
  have hn1 : rightB v p.l = true → p.l.length ≤ 8 := fun h => by
    rcases Nat.lt_or_ge 8 p.l.length with h2 | h2
    · rw [right_n1 h2] at h; cases h
    · exact h2
  have I := Lib.hid (fun W h hr => contains_any p x W (hx W h) (Nat.le_trans (hn1 hr) (by decide)))
  clear hn1
  unfold hasB
  generalize rightB v p.l = r at *
  generalize decide (x ∈ p.l) = b at *
  unfold LV at *
  generalize p.V = pv at *
  have bw : Ex w (w.alloc (.cells #[.int .u64 v, pv] 45)) := (Below.refl _ _).alloc (Nat.le_refl _) _
  have cc := Lib.hid ((Bk.new (w := w) rfl 45 #[.int .u64 v, pv]).cell 1)
  have hz := Lib.hid (show w.heap.size < (w.alloc (.cells #[.int .u64 v, pv] 45)).heap.size by simp)
  clear hx hp
  go_enter Try.func36, Try.ntmps36
  go_wp2_with fail
  refine (R.out _ bw).mono ?_
  rintro e w1 ⟨rfl, x1⟩
  have c1 := (x1.cell (p := ⟨w.heap.size, 1, none⟩) hz.out).trans cc.out
  have bw1 : Ex w w1 := Ex.trans bw x1
  clear x1 cc hz bw R
  have c1' : w1.cell? ⟨w.heap.size, 1, none⟩ = some pv := by simpa using c1
  clear c1
  cases r
  · go_wp2_with fail
    go_ret
    exact ⟨rfl, bw1⟩
  · go_wp2_with fail
    refine (I.out _ bw1 (by trivial)).mono ?_
    rintro e w2 ⟨rfl, rfl⟩
    go_wp2_with fail
    go_ret
    exact ⟨rfl, bw1⟩
def majI (v : Int) (l : List Int) : Int := if rightB v l = true then (l.length : Int) / 2 + 1 else 0
set_option maxHeartbeats 2000000 in
set_option maxRecDepth 100000 in
theorem maj_any (v : Int) (p : Pt) (w : World) (hp : p.In w w.heap.size) :
    Calls Try.prog 34 #[LV v p] w fun e w' => e = .returned (.int .i64 (majI v p.l)) ∧ Below w.heap.size w w' := by
  have hx : ∀ W : World, Ex w W → p.In W W.heap.size := fun W h => (hp.keep h).more h.size
  have R := Lib.hid (fun W h => right_any v p W (hx W h))
  have hn1 : rightB v p.l = true → p.l.length ≤ 8 := fun h => by
    rcases Nat.lt_or_ge 8 p.l.length with h2 | h2
    · rw [right_n1 h2] at h; cases h
    · exact h2
  unfold majI
  generalize rightB v p.l = r at *
  obtain ⟨ad, cap, l⟩ := p
  unfold LV Pt.V at *
  simp only at *
  generalize l.length = n at *
  obtain ⟨pv, hpv⟩ : ∃ pv, pv = Value.slice ad n cap := ⟨_, rfl⟩
  have bw : Ex w (w.alloc (.cells #[.int .u64 v, .slice ad n cap] 45)) := (Below.refl _ _).alloc (Nat.le_refl _) _
  have cc := Lib.hid ((Bk.new (w := w) rfl 45 #[.int .u64 v, .slice ad n cap]).cell 1)
  have hz := Lib.hid (show w.heap.size < (w.alloc (.cells #[.int .u64 v, .slice ad n cap] 45)).heap.size by simp)
  clear hx hp hpv
  go_enter Try.func34, Try.ntmps34
  go_wp2_with fail
  refine (R.out _ bw).mono ?_
  rintro e w1 ⟨rfl, x1⟩
  have c1 := (x1.cell (p := ⟨w.heap.size, 1, none⟩) hz.out).trans cc.out
  have bw1 : Ex w w1 := Ex.trans bw x1
  clear x1 cc hz bw R
  have c1' : w1.cell? ⟨w.heap.size, 1, none⟩ = some (.slice ad n cap) := by simpa using c1
  clear c1
  cases r
  · go_wp2_with fail
    go_ret
    exact ⟨rfl, bw1⟩
  · have h8 := hn1 rfl
    have h8' : (n : Int) ≤ 8 := by omega
    have h0' : 0 ≤ (n : Int) := by omega
    clear hn1
    go_wp2_with fail
    go_ret
    exact ⟨rfl, bw1⟩
set_option maxHeartbeats 2000000 in
set_option maxRecDepth 100000 in
theorem equal_any (p q : Pt) (w : World) (hp : p.In w w.heap.size) (hq : q.In w w.heap.size) (hL : p.l.length ≤ 9223372036854775807) (hL2 : q.l.length ≤ 9223372036854775807) :
    Calls Try.prog 50 #[p.V, q.V] w fun e w' => e = .returned (.bool (decide (p.l = q.l))) ∧ Below w.heap.size w w' := by
  obtain ⟨ad, cap, l⟩ := p
  obtain ⟨bd, cbp, m⟩ := q
  unfold Pt.V
  simp only
  have hr := hp.read
  have hs := hq.read
  simp only at hr hs
  clear hp hq
  obtain ⟨n, hn⟩ : ∃ n, n = l.length := ⟨_, rfl⟩
  obtain ⟨n2, hn2⟩ : ∃ n, n = m.length := ⟨_, rfl⟩
  have HN := Lib.hid hn
  have HN2 := Lib.hid hn2
  rw [← hn] at hr ⊢
  rw [← hn2] at hs ⊢
  simp only at hL hL2
  rw [← hn] at hL
  rw [← hn2] at hL2
  by_cases hne : n = n2
  · subst hne
    have HR := Lib.hid hr
    have HS := Lib.hid hs
    have D0 := Lib.hid (show ∀ b : Bool, (∀ i, i < n → l.getD i 0 = m.getD i 0) → decide (l = m) = true from fun b h => decide_eq_true (by
      apply List.ext_getElem (by rw [← HN.out, ← HN2.out])
      intro i h1 h2
      have := h i (by rw [HN.out]; exact h1)
      simpa [List.getD, h1, h2] using this))
    have D1 := Lib.hid (show ∀ i, l.getD i 0 ≠ m.getD i 0 → decide (l = m) = false from fun i h => decide_eq_false (fun e => h (by rw [e])))
    clear hr hs hn hn2
    go_enter Try.func50, Try.ntmps50
    go_wp2
    go_loopw [13] (fun i wr => ∃ k : Nat, k ≤ n ∧ i = .int .i64 k ∧ Hid (∀ j, j < k → l.getD j 0 = m.getD j 0) ∧ Below w.heap.size w wr) (fun i _ => n - (intOf i).toNat)
    case atStart => exact ⟨0, by omega, rfl, Lib.hid fun j hj => by omega, Below.refl _ _⟩
    case round =>
      obtain ⟨k, hk, rfl, ok, bw⟩ := hrel
      by_cases hlt : k < n
      · obtain ⟨a, o, rfl, hlt1, hc⟩ := HR.out (by omega)
        obtain ⟨b, u, rfl, hlt2, hd⟩ := HS.out (by omega)
        have q0 : (0 : Int) ≤ (k : Int) := by omega
        have q1 : (k : Int) < (n : Int) := by omega
        have cx := (Below.cell (p := ⟨a, o + k, none⟩) bw hlt1).trans (hc k hlt)
        have cy := (Below.cell (p := ⟨b, u + k, none⟩) bw hlt2).trans (hd k hlt)
        obtain ⟨x, hx⟩ : ∃ x, x = l.getD k 0 := ⟨_, rfl⟩
        obtain ⟨y, hy⟩ : ∃ x, x = m.getD k 0 := ⟨_, rfl⟩
        rw [← hx] at cx
        rw [← hy] at cy
        have HX := Lib.hid hx
        have HY := Lib.hid hy
        clear hx hy hc hd
        by_cases e : x = y
        · subst e
          have ok' : Hid (∀ j, j < k + 1 → l.getD j 0 = m.getD j 0) := Lib.hid fun j hj => by
            by_cases e : j = k
            · subst e; rw [← HX.out, ← HY.out]
            · exact ok.out j (by omega)
          go_wp2
          go_quiet (fail)
          go_wp2
          go_roundw
          case rel => exact ⟨k + 1, by omega, by go_num, ok', ⟨bw.os, bw.tape, bw.output, bw.size, bw.block⟩⟩
          case measure => simp [intOf]; omega
        · have R := Lib.hid (D1.out k (by rw [← HX.out, ← HY.out]; exact e))
          have e1 : (x == y) = false := by simpa using e
          have e2 : (x != y) = true := by simpa using e
          go_wp2
          go_quiet (fail)
          go_wp2
          go_ret
          exact ⟨ret_eq (congrArg Value.bool R.out.symm), ⟨bw.os, bw.tape, bw.output, bw.size, bw.block⟩⟩
      · obtain rfl : k = n := by omega
        have R := Lib.hid (D0.out true ok.out)
        go_wp2
        go_ret
        exact ⟨ret_eq (congrArg Value.bool R.out.symm), bw⟩
  · have R := Lib.hid (show decide (l = m) = false from decide_eq_false (fun e => hne (by rw [HN.out, HN2.out, e])))
    have e1 : ((n : Int) == (n2 : Int)) = false := by simp; omega
    have e2 : ((n : Int) != (n2 : Int)) = true := by simp; omega
    clear hr hs hn hn2
    go_enter Try.func50, Try.ntmps50
    go_wp2
    go_ret
    exact ⟨ret_eq (congrArg Value.bool R.out.symm), Below.refl _ _⟩
set_option maxHeartbeats 2000000 in
set_option maxRecDepth 100000 in
theorem sameI_any (p q : Pt) (w : World) (hp : p.In w w.heap.size) (hq : q.In w w.heap.size) (hL : p.l.length ≤ 9223372036854775807) (hL2 : q.l.length ≤ 9223372036854775807) :
    Calls Try.prog 30 #[p.V, q.V] w fun e w' => e = .returned (.bool (decide (p.l = q.l))) ∧ Below w.heap.size w w' := by
  obtain ⟨ad, cap, l⟩ := p
  obtain ⟨bd, cbp, m⟩ := q
  unfold Pt.V
  simp only
  have hr := hp.read
  have hs := hq.read
  simp only at hr hs
  clear hp hq
  obtain ⟨n, hn⟩ : ∃ n, n = l.length := ⟨_, rfl⟩
  obtain ⟨n2, hn2⟩ : ∃ n, n = m.length := ⟨_, rfl⟩
  have HN := Lib.hid hn
  have HN2 := Lib.hid hn2
  rw [← hn] at hr ⊢
  rw [← hn2] at hs ⊢
  simp only at hL hL2
  rw [← hn] at hL
  rw [← hn2] at hL2
  by_cases hne : n = n2
  · subst hne
    have HR := Lib.hid hr
    have HS := Lib.hid hs
    have D0 := Lib.hid (show ∀ b : Bool, (∀ i, i < n → l.getD i 0 = m.getD i 0) → decide (l = m) = true from fun b h => decide_eq_true (by
      apply List.ext_getElem (by rw [← HN.out, ← HN2.out])
      intro i h1 h2
      have := h i (by rw [HN.out]; exact h1)
      simpa [List.getD, h1, h2] using this))
    have D1 := Lib.hid (show ∀ i, l.getD i 0 ≠ m.getD i 0 → decide (l = m) = false from fun i h => decide_eq_false (fun e => h (by rw [e])))
    clear hr hs hn hn2
    go_enter Try.func30, Try.ntmps30
    go_wp2
    go_loopw [5] (fun i wr => ∃ k : Nat, k ≤ n ∧ i = .int .i64 k ∧ Hid (∀ j, j < k → l.getD j 0 = m.getD j 0) ∧ Below w.heap.size w wr) (fun i _ => n - (intOf i).toNat)
    case atStart => exact ⟨0, by omega, rfl, Lib.hid fun j hj => by omega, Below.refl _ _⟩
    case round =>
      obtain ⟨k, hk, rfl, ok, bw⟩ := hrel
      by_cases hlt : k < n
      · obtain ⟨a, o, rfl, hlt1, hc⟩ := HR.out (by omega)
        obtain ⟨b, u, rfl, hlt2, hd⟩ := HS.out (by omega)
        have q0 : (0 : Int) ≤ (k : Int) := by omega
        have q1 : (k : Int) < (n : Int) := by omega
        have cx := (Below.cell (p := ⟨a, o + k, none⟩) bw hlt1).trans (hc k hlt)
        have cy := (Below.cell (p := ⟨b, u + k, none⟩) bw hlt2).trans (hd k hlt)
        obtain ⟨x, hx⟩ : ∃ x, x = l.getD k 0 := ⟨_, rfl⟩
        obtain ⟨y, hy⟩ : ∃ x, x = m.getD k 0 := ⟨_, rfl⟩
        rw [← hx] at cx
        rw [← hy] at cy
        have HX := Lib.hid hx
        have HY := Lib.hid hy
        clear hx hy hc hd
        by_cases e : x = y
        · subst e
          have ok' : Hid (∀ j, j < k + 1 → l.getD j 0 = m.getD j 0) := Lib.hid fun j hj => by
            by_cases e : j = k
            · subst e; rw [← HX.out, ← HY.out]
            · exact ok.out j (by omega)
          go_wp2
          go_quiet (fail)
          go_wp2
          go_roundw
          case rel => exact ⟨k + 1, by omega, by go_num, ok', ⟨bw.os, bw.tape, bw.output, bw.size, bw.block⟩⟩
          case measure => simp [intOf]; omega
        · have R := Lib.hid (D1.out k (by rw [← HX.out, ← HY.out]; exact e))
          have e1 : (x == y) = false := by simpa using e
          have e2 : (x != y) = true := by simpa using e
          go_wp2
          go_quiet (fail)
          go_wp2
          go_ret
          exact ⟨ret_eq (congrArg Value.bool R.out.symm), ⟨bw.os, bw.tape, bw.output, bw.size, bw.block⟩⟩
      · obtain rfl : k = n := by omega
        have R := Lib.hid (D0.out true ok.out)
        go_wp2
        go_ret
        exact ⟨ret_eq (congrArg Value.bool R.out.symm), bw⟩
  · have R := Lib.hid (show decide (l = m) = false from decide_eq_false (fun e => hne (by rw [HN.out, HN2.out, e])))
    have e1 : ((n : Int) == (n2 : Int)) = false := by simp; omega
    have e2 : ((n : Int) != (n2 : Int)) = true := by simp; omega
    clear hr hs hn hn2
    go_enter Try.func30, Try.ntmps30
    go_wp2
    go_ret
    exact ⟨ret_eq (congrArg Value.bool R.out.symm), Below.refl _ _⟩
end Go.Proofs.Ytgoiidpcdifojaa
