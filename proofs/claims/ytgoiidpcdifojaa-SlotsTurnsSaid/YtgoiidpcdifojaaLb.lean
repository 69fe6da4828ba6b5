/- disks: isSlot, Clone, New, Sync -/
import Derived.Test.YtgoiidpcdifojaaLa
import Derived.Test.YtgoiidpcdifojaaRoF
namespace Go.Proofs.Ytgoiidpcdifojaa
open Go.RowKit
theorem seg_set : ∀ (cs : List Value) (off : Nat) (C : List Value), off + cs.length ≤ C.length → ∀ (w : World) (g : Nat) (t : TypeId), Bk w g t C.toArray → Bk (w.setCells g off cs) g t (C.take off ++ cs ++ C.drop (off + cs.length)).toArray
  | [], off, C, _, w, g, t, h => by
    show Bk w g t _
    simpa using h
  | v :: r, off, C, hl, w, g, t, h => by
    have h1 := h.put off v
    have e1 : C.toArray.setIfInBounds off v = (C.set off v).toArray := by simp
    rw [e1] at h1
    have h2 := seg_set r (off + 1) (C.set off v) (by simp at hl ⊢; omega) (w.setCell ⟨g, off, none⟩ v) g t h1
    have hlt : off < C.length := by simp at hl; omega
    have e2 : (C.set off v).take (off + 1) ++ r ++ (C.set off v).drop (off + 1 + r.length) = C.take off ++ (v :: r) ++ C.drop (off + (v :: r).length) := by
      have a1 : (C.set off v).take (off + 1) = C.take off ++ [v] := by
        rw [List.take_succ_eq_append_getElem (by simpa using hlt)]
        simp [List.take_set_of_le]
      have a2 : (C.set off v).drop (off + 1 + r.length) = C.drop (off + (v :: r).length) := by
        rw [List.drop_set_of_lt (by omega), List.length_cons]; congr 1; omega
      rw [a1, a2]; simp
    rw [e2] at h2
    exact h2
theorem isslot_any (n : Int) (w : World) : Calls Try.prog 44 #[.int .i64 n] w fun e w' => e = .returned (.bool (decide (0 ≤ n) && decide (n < 10))) ∧ w = w' := by
  by_cases h0 : 0 ≤ n
  · by_cases h1 : n < 10
    · rw [decide_eq_true h0, decide_eq_true h1]
      go_enter Try.func44, Try.ntmps44
      go_wp2
      go_ret
      exact ⟨rfl, rfl⟩
    · rw [decide_eq_true h0, decide_eq_false h1]
      go_enter Try.func44, Try.ntmps44
      go_wp2
      go_ret
      exact ⟨by simp [h1], rfl⟩
  · rw [decide_eq_false h0]
    have hd : decide (0 ≤ n) = false := by simpa using h0
    go_enter Try.func44, Try.ntmps44
    go_wp2
    go_ret
    exact ⟨by simp [h0], rfl⟩
set_option maxHeartbeats 4000000 in
set_option maxRecDepth 100000 in
theorem bclone_any (p : Sm.Pt) (h8 : p.l.length ≤ 1000000) (w : World) (hp : p.In w w.heap.size) : Calls Try.prog 45 #[p.V] w (Sm.PtPost p.l w) := by
  obtain ⟨ad, cap, l⟩ := p
  cases ad with
  | none =>
    obtain rfl : cap = 0 := hp.nil rfl
    have h0 : l = [] := List.eq_nil_of_length_eq_zero (Nat.le_zero.1 hp.cap)
    subst h0
    unfold Sm.Pt.V
    have q43 : ∀ (w : World) (a : Option Addr) (n c n' c' : Nat), (binOp .eql 27 (.slice a n c) (.slice none n' c')).run Try.prog w = .ok (.bool a.isNone) w := fun w a n c n' c' => Lib.run_eql_slice_nil w _ _ a n c n' c' Try.underlying27
    go_enter Try.func45, Try.ntmps45
    go_wp2_with fail
    go_ret
    exact ⟨⟨none, 0, []⟩, rfl, rfl, ⟨Nat.le_refl _, fun _ => rfl, fun h => absurd h (Nat.lt_irrefl 0)⟩, Below.refl _ _⟩
  | some ad =>
    unfold Sm.Pt.V
    simp only at h8 ⊢
    obtain ⟨n, hn⟩ : ∃ n, n = l.length := ⟨_, rfl⟩
    have HN := Lib.hid hn
    have xa : Ex w (w.alloc (.cells (#[] : Array Value) 5)) := (Below.refl _ _).alloc (Nat.le_refl _) _
    have OW := Lib.hid (show Sm.ownU (w.alloc (.cells (#[] : Array Value) 5)) w.heap.size (.slice (some ⟨w.heap.size, 0, none⟩) 0 0) [] from World.ownsRow_lit w #[] 0 (Nat.le_refl _) (by unfold maxLen; omega) rfl)
    have HP := Lib.hid (hp.ext xa)
    have XA := Lib.hid xa
    rw [← hn] at h8 ⊢
    have H8 := Lib.hid h8
    have NEWS := Lib.hid (show 0 < n → ∃ ad', some ad = some ad' ∧ ∀ j u, (Lib.byteCells l)[j]? = some u → (w.alloc (.cells (#[] : Array Value) 5)).cell? (ad'.add j) = some u from fun h => by
      obtain ⟨a, o, e, hl, hc⟩ := HP.out.read (by show 0 < l.length; rw [← hn]; exact h)
      refine ⟨ad, rfl, fun j u hu => ?_⟩
      have hj : j < l.length := by have := (List.getElem?_eq_some_iff.1 hu).1; simpa [Lib.byteCells] using this
      have e : ad = ⟨a, o, none⟩ := Option.some.inj e
      subst e
      rw [Addr.add_lit, hc j hj, ← hu]
      simp [Lib.byteCells, List.getD, hj])
    clear hn hp xa
    have q43 : ∀ (w : World) (a : Option Addr) (n c n' c' : Nat), (binOp .eql 27 (.slice a n c) (.slice none n' c')).run Try.prog w = .ok (.bool a.isNone) w := fun w a n c n' c' => Lib.run_eql_slice_nil w _ _ a n c n' c' Try.underlying27
    go_enter Try.func45, Try.ntmps45
    go_wp2_with (at_builtin; refine Sm.sm_append rfl (.tmp 5) (.tmp 6) rfl w.heap.size _ 0 (Lib.byteCells []) rfl OW.out (some ad) n cap l rfl ?_ HN.out.symm ?_ ?_ ?_ ?_; (focus (exact fun h => by cases h)); (focus (exact NEWS.out)); (focus (have := H8.out; omega)); (focus (exact XA.out.size)); intro v3 w3 hown3 hg3; have HO3 := Lib.hid hown3; have HG3 := Lib.hid hg3; clear hown3 hg3)
    go_ret
    have bx : Below w.heap.size (w.alloc (.cells (#[] : Array Value) 5)) w3 := (Below.refl _ _).grown HG3.out XA.out.size (fun x hx => (World.ownsRow.lt OW.out x hx).1)
    have ow : Sm.ownU w3 w.heap.size v3 l := by
      have h := HO3.out
      unfold Sm.ownU
      rw [← HN.out]
      simpa [Lib.byteCells] using h
    obtain ⟨q, hqv, hql, hqin, _⟩ := Sm.own_pt ow
    exact ⟨q, by rw [← hqv]; rfl, hql, hqin, Below.trans XA.out bx⟩
def zeroC : Dc := ⟨List.replicate 10 (false, []), List.replicate 10 (false, []), 0, 0, []⟩
def nilB : Sm.Pt := ⟨none, 0, []⟩
theorem nilB_in (w : World) (B : Nat) : nilB.In w B := ⟨Nat.le_refl _, fun _ => rfl, fun h => absurd h (Nat.lt_irrefl 0)⟩
def zeroD : Dk := ⟨List.replicate 10 (false, nilB), List.replicate 10 (false, nilB), 0, 0, nilB⟩
theorem zero_dk {w : World} {g : Nat} (h : Bk w g 72 zeroD.C) : DK w g zeroC := by
  refine ⟨zeroD, ⟨h, rfl, rfl, fun i x hx => ?_, fun i x hx => ?_, nilB_in _ _⟩, rfl⟩
  · have := List.mem_of_getElem? hx
    rw [show x = (false, nilB) from List.eq_of_mem_replicate this]; exact nilB_in _ _
  · have := List.mem_of_getElem? hx
    rw [show x = (false, nilB) from List.eq_of_mem_replicate this]; exact nilB_in _ _
def NewPost (w : World) (e : Ending) (w' : World) : Prop := ∃ g, e = .returned (.pointer (some ⟨g, 0, none⟩)) ∧ w.heap.size ≤ g ∧ DK w' g zeroC ∧ Ex w w'
set_option maxHeartbeats 4000000 in
set_option maxRecDepth 100000 in
theorem new7_any (w : World) : Calls Try.prog 13 #[] w (NewPost w) := by
  go_enter Try.func13, Try.ntmps13
  go_wp2_with fail
  go_ret
  exact ⟨w.heap.size, rfl, Nat.le_refl _, zero_dk (Bk.new rfl 72 zeroD.C), (Below.refl _ _).alloc (Nat.le_refl _) _⟩
end Go.Proofs.Ytgoiidpcdifojaa
