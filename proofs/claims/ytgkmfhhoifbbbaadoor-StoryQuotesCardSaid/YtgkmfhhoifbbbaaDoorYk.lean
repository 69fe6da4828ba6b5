/- strings.Cut at a newline. -/
import Derived.Test.YtgkmfhhoifbbbaaDoorYj
namespace Go.Proofs.YtgkmfhhoifbbbaaDoor
open Go Go.RowKit
def nlT (l : List UInt8) : List UInt8 := l.takeWhile (fun c => c != 10)
def nlD (l : List UInt8) : List UInt8 := (l.dropWhile (fun c => c != 10)).drop 1
def nlH (l : List UInt8) : Bool := l.contains 10
theorem nl_cases : ∀ l : List UInt8, (Lib.indexByte l 10 = -1 ∧ nlH l = false) ∨ ∃ i : Nat, i < l.length ∧ Lib.indexByte l 10 = i ∧ nlH l = true ∧ nlT l = l.take i ∧ nlD l = l.drop (i + 1)
  | [] => .inl ⟨rfl, rfl⟩
  | c :: l => by
    by_cases hc : c = 10
    · subst hc
      exact .inr ⟨0, by simp, by simp [Lib.indexByte], by simp [nlH], by simp [nlT], by simp [nlD]⟩
    · have h1 : (c == 10) = false := by simpa using hc
      have h2 : (c != 10) = true := by simpa using hc
      have h3 : (10 == c) = false := by simpa using fun e => hc e.symm
      have e1 : nlT (c :: l) = c :: nlT l := by simp [nlT, List.takeWhile_cons, h2]
      have e2 : nlD (c :: l) = nlD l := by simp [nlD, List.dropWhile_cons, h2]
      have e3 : nlH (c :: l) = nlH l := by simp [nlH, List.contains_cons]; exact fun e => absurd e.symm hc
      rcases nl_cases l with ⟨a, b⟩ | ⟨i, hi, a, b, d, e⟩
      · left
        refine ⟨?_, by rw [e3, b]⟩
        simp [Lib.indexByte, h1, a]
      · right
        refine ⟨i + 1, by simp; omega, ?_, by rw [e3, b], by rw [e1, d]; rfl, by rw [e2, e]; rfl⟩
        have : ¬ ((i : Int) == -1) = true := by simp
        simp [Lib.indexByte, h1, a]
def cutV (l : List UInt8) : Value := if nlH l = true then .tuple #[.string ⟨(nlT l).toArray⟩, .string ⟨(nlD l).toArray⟩, .bool true] else .tuple #[.string ⟨l.toArray⟩, .string ⟨#[]⟩, .bool false]
theorem below_drewN (w : World) : ∀ n : Nat, Below w.heap.size w (w.drewN n) := fun n => ⟨rfl, rfl, rfl, Nat.le_refl _, fun _ _ => rfl⟩
set_option maxHeartbeats 2000000 in
set_option maxRecDepth 100000 in
theorem scut_any (l : List UInt8) (hl : l.length ≤ 1099511627776) (w : World) : Calls Tryd.prog 46 #[.string ⟨l.toArray⟩, .string ⟨#[10]⟩] w fun e w' => e = .returned (cutV l) ∧ Below w.heap.size w w' := by
  have hs := size_mk l
  rcases nl_cases l with ⟨e1, e2⟩ | ⟨i, hi, e1, e2, e3, e4⟩
  · have hv : cutV l = .tuple #[.string ⟨l.toArray⟩, .string ⟨#[]⟩, .bool false] := by unfold cutV; rw [e2]; rfl
    rw [hv]
    clear hv
    go_enter Tryd.func46, Tryd.ntmps46
    go_wp2_with (go_at_call 67; refine (Tryd.stringslite_Index_one ⟨l.toArray⟩ 10 _).mono ?_; rintro e w ⟨rfl, rfl⟩; rw [show Lib.indexByte (⟨l.toArray⟩ : ByteArray).data.toList 10 = -1 from e1])
    go_ret3
    exact ⟨rfl, Below.refl _ _⟩
  · have hv : cutV l = .tuple #[.string ⟨(l.take i).toArray⟩, .string ⟨(l.drop (i + 1)).toArray⟩, .bool true] := by unfold cutV; rw [e2, e3, e4]; rfl
    rw [hv]
    clear hv
    have i1 : (i : Int) ≤ (l.length : Int) := by omega
    have i2 : (0 : Int) ≤ (i : Int) := by omega
    have i3 : (i : Int) + 1 ≤ (l.length : Int) := by omega
    have i4 : (0 : Int) ≤ (i : Int) + 1 := by omega
    go_enter Tryd.func46, Tryd.ntmps46
    go_wp2_with (go_at_call 67; refine (Tryd.stringslite_Index_one ⟨l.toArray⟩ 10 _).mono ?_; rintro e w ⟨rfl, rfl⟩; rw [show Lib.indexByte (⟨l.toArray⟩ : ByteArray).data.toList 10 = i from e1])
    go_region
    all_goals go_wp2
    all_goals go_ret3
    all_goals (
      refine ⟨?_, ?_⟩
      · rw [ext_take, ext_drop l (i + 1) _ rfl]; rfl
      · exact (Below.refl _ _).drew)
set_option maxHeartbeats 2000000 in
set_option maxRecDepth 100000 in
theorem cut_any (l : List UInt8) (hl : l.length ≤ 1099511627776) (w : World) : Calls Tryd.prog 31 #[.string ⟨l.toArray⟩, .string ⟨#[10]⟩] w fun e w' => e = .returned (cutV l) ∧ Below w.heap.size w w' := by
  have h := scut_any l hl w
  by_cases c : nlH l = true
  · have hv : cutV l = .tuple #[.string ⟨(nlT l).toArray⟩, .string ⟨(nlD l).toArray⟩, .bool true] := by unfold cutV; rw [if_pos c]
    rw [hv] at h ⊢
    clear hv
    go_enter Tryd.func31, Tryd.ntmps31
    go_wp2_with (go_at_call 46; refine h.mono ?_; rintro e w1 ⟨rfl, b1⟩)
    go_ret3
    exact ⟨rfl, b1⟩
  · have hv : cutV l = .tuple #[.string ⟨l.toArray⟩, .string ⟨#[]⟩, .bool false] := by unfold cutV; rw [if_neg c]
    rw [hv] at h ⊢
    clear hv
    go_enter Tryd.func31, Tryd.ntmps31
    go_wp2_with (go_at_call 46; refine h.mono ?_; rintro e w1 ⟨rfl, b1⟩)
    go_ret3
    exact ⟨rfl, b1⟩
end Go.Proofs.YtgkmfhhoifbbbaaDoor
