/- The verbs of lines; which fields of an item a line says as numbers. -/
import Derived.Test.YtgkmfhhoifbbbaaDoorYh
import Derived.Test.YtgkmfhhoifbbbaaDoorVa
import Derived.RegionTactic
namespace Go.Proofs.YtgkmfhhoifbbbaaDoor
open Go Go.RowKit
def vb (l : List UInt8) : ByteArray := ⟨l.toArray⟩
def verbZ : List ByteArray := [vb [97, 115, 107], vb [100, 101, 108, 105, 118, 101, 114], vb [108, 111, 115, 101], vb [100, 111, 117, 98, 108, 101], vb [105, 110, 106, 101, 99, 116], vb [102, 117, 115, 101], vb [115, 116, 97, 114, 116], vb [115, 116, 111, 112], vb [99, 111, 112, 121], vb [115, 119, 97, 112], vb [115, 112, 111, 105, 108], vb [109, 111, 118, 101], vb [97, 103, 97, 105, 110], vb [115, 101, 116, 116, 108, 101]]
set_option maxHeartbeats 2000000 in
set_option maxRecDepth 100000 in
theorem verbs_any (w : World) : Calls Tryd.prog 10 #[] w fun e w' => e = .returned (.slice (some ⟨w.heap.size, 0, none⟩) 14 14) ∧ w' = w.alloc (.cells (verbZ.map Value.string).toArray 9) := by
  go_enter Tryd.func10, Tryd.ntmps10
  go_wp2
  go_ret
  exact ⟨rfl, rfl⟩
def numsL (k : Nat) : List Nat := if k = 1 then [2, 1] else if k = 2 ∨ k = 3 ∨ k = 4 then [3] else if k = 5 then [1, 3, 5] else if k = 6 ∨ k = 11 then [1, 3, 6] else if k = 7 ∨ k = 8 ∨ k = 9 ∨ k = 10 ∨ k = 13 then [1] else if k = 12 then [1, 4, 5] else []
def offC (s : Nat) (l : List Nat) : Array Value := (l.map fun o => Value.pointer (some ⟨s, o, none⟩)).toArray
def OffV (s : Nat) (l : List Nat) (v : Value) (w w' : World) : Prop := Below w.heap.size w w' ∧ ((l = [] ∧ v = .slice none 0 0) ∨ (l ≠ [] ∧ v = .slice (some ⟨w.heap.size, 0, none⟩) l.length l.length ∧ Bk w' w.heap.size 88 (offC s l)))
set_option maxHeartbeats 8000000 in
set_option maxRecDepth 100000 in
theorem numbers_any {tt : TypeId} (s : Nat) (cs : Array Value) (k : Nat) (hk : k ≤ 14) (w : World) (h : Bk w s tt cs) (h0 : cs[0]? = some (.int .i64 (k : Int))) :
    Calls Tryd.prog 48 #[.pointer (some ⟨s, 0, none⟩)] w fun e w' => ∃ v, e = .returned v ∧ OffV s (numsL k) v w w' := by
  have c0 : w.cell? ⟨s, 0, none⟩ = some (.int .i64 (k : Int)) := by rw [h.cell]; exact h0
  have bn : ∀ (o : Obj), Below w.heap.size w (w.alloc o) := fun o => (Below.refl _ _).alloc (Nat.le_refl _) _
  clear h
  have hk' : k = 0 ∨ k = 1 ∨ k = 2 ∨ k = 3 ∨ k = 4 ∨ k = 5 ∨ k = 6 ∨ k = 7 ∨ k = 8 ∨ k = 9 ∨ k = 10 ∨ k = 11 ∨ k = 12 ∨ k = 13 ∨ k = 14 := by omega
  clear hk
  rcases hk' with rfl | rfl | rfl | rfl | rfl | rfl | rfl | rfl | rfl | rfl | rfl | rfl | rfl | rfl | rfl
  · clear h0
    go_enter Tryd.func48, Tryd.ntmps48
    go_wp2
    go_ret
    exact ⟨_, rfl, Below.refl _ _, .inl ⟨rfl, rfl⟩⟩
  · clear h0
    go_enter Tryd.func48, Tryd.ntmps48
    go_wp2
    go_region
    go_wp2
    go_ret
    exact ⟨_, rfl, (bn _).drew, .inr ⟨by decide, rfl, Bk.new rfl _ _⟩⟩
  · clear h0
    go_enter Tryd.func48, Tryd.ntmps48
    go_wp2
    go_ret
    exact ⟨_, rfl, (bn _), .inr ⟨by decide, rfl, Bk.new rfl _ _⟩⟩
  · clear h0
    go_enter Tryd.func48, Tryd.ntmps48
    go_wp2
    go_ret
    exact ⟨_, rfl, (bn _), .inr ⟨by decide, rfl, Bk.new rfl _ _⟩⟩
  · clear h0
    go_enter Tryd.func48, Tryd.ntmps48
    go_wp2
    go_ret
    exact ⟨_, rfl, (bn _), .inr ⟨by decide, rfl, Bk.new rfl _ _⟩⟩
  · clear h0
    go_enter Tryd.func48, Tryd.ntmps48
    go_wp2
    go_region
    go_wp2
    go_ret
    exact ⟨_, rfl, (bn _).drew, .inr ⟨by decide, rfl, Bk.new rfl _ _⟩⟩
  · clear h0
    go_enter Tryd.func48, Tryd.ntmps48
    go_wp2
    go_region
    go_wp2
    go_ret
    exact ⟨_, rfl, (bn _).drew, .inr ⟨by decide, rfl, Bk.new rfl _ _⟩⟩
  · clear h0
    go_enter Tryd.func48, Tryd.ntmps48
    go_wp2
    go_ret
    exact ⟨_, rfl, (bn _), .inr ⟨by decide, rfl, Bk.new rfl _ _⟩⟩
  · clear h0
    go_enter Tryd.func48, Tryd.ntmps48
    go_wp2
    go_ret
    exact ⟨_, rfl, (bn _), .inr ⟨by decide, rfl, Bk.new rfl _ _⟩⟩
  · clear h0
    go_enter Tryd.func48, Tryd.ntmps48
    go_wp2
    go_ret
    exact ⟨_, rfl, (bn _), .inr ⟨by decide, rfl, Bk.new rfl _ _⟩⟩
  · clear h0
    go_enter Tryd.func48, Tryd.ntmps48
    go_wp2
    go_ret
    exact ⟨_, rfl, (bn _), .inr ⟨by decide, rfl, Bk.new rfl _ _⟩⟩
  · clear h0
    go_enter Tryd.func48, Tryd.ntmps48
    go_wp2
    go_region
    go_wp2
    go_ret
    exact ⟨_, rfl, (bn _).drew, .inr ⟨by decide, rfl, Bk.new rfl _ _⟩⟩
  · clear h0
    go_enter Tryd.func48, Tryd.ntmps48
    go_wp2
    go_region
    go_wp2
    go_ret
    exact ⟨_, rfl, (bn _).drew, .inr ⟨by decide, rfl, Bk.new rfl _ _⟩⟩
  · clear h0
    go_enter Tryd.func48, Tryd.ntmps48
    go_wp2
    go_ret
    exact ⟨_, rfl, (bn _), .inr ⟨by decide, rfl, Bk.new rfl _ _⟩⟩
  · clear h0
    go_enter Tryd.func48, Tryd.ntmps48
    go_wp2
    go_ret
    exact ⟨_, rfl, Below.refl _ _, .inl ⟨rfl, rfl⟩⟩
end Go.Proofs.YtgkmfhhoifbbbaaDoor
