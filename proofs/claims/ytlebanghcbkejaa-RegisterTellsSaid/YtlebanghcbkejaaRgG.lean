/- Boot of package register; what a register that goes on keeps -/
import Derived.Test.YtlebanghcbkejaaRgE
namespace Go.Proofs.Ytlebanghcbkejaa
open Go.RowKit
def Rg.boot (r : Rg) : Rg := ⟨r.b + 1, r.c, r.a, r.l, r.p⟩
set_option maxHeartbeats 2000000 in
set_option maxRecDepth 100000 in
theorem boot_one (r : Rg) (ok : r.Ok) (hc : r.b < 9000000000000000000) (w : World) :
    Calls Try.prog 14 #[r.V] w fun e w' => e = .returned (keptV r r.boot) ∧ Below w.heap.size w w' := by
  have ST := Lib.hid (fun W => step_one r r.boot ok ⟨by have := ok.b0; show 0 ≤ r.b + 1; omega, ok.c0, ok.a0, ok.l16⟩ W)
  have hc0 := ok.b0
  have HR := Lib.hid ok.l16
  have HK := Lib.hid (kept_len r r.boot ok.l16)
  obtain ⟨cs, hcs⟩ : ∃ cs, cs = r.C.toArray := ⟨_, rfl⟩
  have hv : r.V = .agg cs := by rw [hcs]; rfl
  have R0 : Hid (∀ Z, RB ((w.alloc (.cells cs 27)).alloc (.cells Z 27)) w.heap.size r) := by
    rw [hcs]; exact Lib.hid fun Z => ⟨HR.out, (Bk.new rfl _ _).more _⟩
  have Z0 : Hid (∀ Z, Bk ((w.alloc (.cells cs 27)).alloc (.cells Z 27)) (w.heap.size + 1) 27 Z) := Lib.hid fun Z => Bk.new (by simp) _ _
  have bw : ∀ Z, Below w.heap.size w ((w.alloc (.cells cs 27)).alloc (.cells Z 27)) := fun Z => ((Below.refl _ _).alloc (Nat.le_refl _) _).alloc (by simp) _
  have BW := Lib.hid bw
  have sz : ∀ Z, ((w.alloc (.cells cs 27)).alloc (.cells Z 27)).heap.size = w.heap.size + 1 + 1 := fun Z => by simp
  have SZ := Lib.hid sz
  obtain ⟨s, hs⟩ : ∃ s, s = r.boot := ⟨_, rfl⟩
  have hs2 : (⟨r.b + 1, r.c, r.a, r.l, r.p⟩ : Rg) = s := by rw [hs]; rfl
  rw [← hs] at ST HK ⊢
  have HS := Lib.hid hs2
  obtain ⟨q, hq⟩ : ∃ q, q = (r.right && s.right) := ⟨_, rfl⟩
  obtain ⟨k, hk⟩ : ∃ k, k = (if (r.right && s.right) = true then s else zeroRg) := ⟨_, rfl⟩
  have hkv : keptV r s = .tuple #[k.V, .bool q] := by rw [hk, hq]; rfl
  rw [← hk, ← hq] at ST
  rw [← hk] at HK
  rw [hkv]
  clear hk hq hkv
  rw [hv]
  clear hv hcs bw sz hs hs2 ok
  go_enter Try.func14, Try.ntmps14
  go_wp2_with (first | (with_reducible refine stop_load25 ?_) | (with_reducible refine stop_store25 ?_) | (with_reducible refine stop_load27 ?_) | (with_reducible refine stop_store27 ?_))
  (with_reducible refine ⟨?_⟩); (with_reducible refine at_any ?_ ?_); (focus go_simp); refine fun K hK => wp_ldr _ _ r rfl rfl (R0.out _) (hK _ _ ?_)
  generalize hw1 : (w.alloc (.cells cs 27)).alloc (.cells _ 27) = w1
  obtain ⟨B, hB⟩ : ∃ B, B = w.heap.size := ⟨_, rfl⟩
  have R1 : RB w1 B r := by rw [← hw1, hB]; exact R0.out _
  have ⟨Z, zl, Z1⟩ : ∃ Z : Array Value, Z.size = 20 ∧ Bk w1 (B + 1) 27 Z := ⟨zeroRg.C.toArray, rfl, by rw [← hw1, hB]; exact Z0.out _⟩
  have bw1 : Below B w w1 := by rw [← hw1, hB]; exact BW.out _
  have sz1 : B + 2 ≤ w1.heap.size := by rw [← hw1, hB, SZ.out _]; omega
  rw [← hB]
  replace hB := Lib.hid hB
  clear R0 Z0 BW SZ hw1
  go_wp2_with (first | (with_reducible refine stop_load25 ?_) | (with_reducible refine stop_store25 ?_) | (with_reducible refine stop_load27 ?_) | (with_reducible refine stop_store27 ?_))
  have x2 : ∀ Z, Ex w1 (w1.alloc (.cells Z 27)) := fun Z => (Below.refl _ _).alloc (Nat.le_refl _) _
  (with_reducible refine ⟨?_⟩); (with_reducible refine at_any ?_ ?_); (focus go_simp); refine fun K hK => wp_str _ _ w1.heap.size r rfl rfl rfl HR.out (Bk.new rfl _ _) rfl (fun w2 hd ho => hK _ _ ?_)
  have R2 := Lib.hid (ho.rb (R1.ext (x2 _)) (by omega))
  have Z2 := Lib.hid (ho.bk (Z1.ext (x2 _)) (by omega))
  have bw2 := ho.below B (by omega) w (Below.trans bw1 ((x2 zeroRg.C.toArray).mono (by omega)))
  obtain ⟨g, hg⟩ : ∃ g, g = w1.heap.size := ⟨_, rfl⟩
  rw [← hg] at hd ⊢
  have S2 := Lib.hid hd
  have gB : B + 1 < g := by omega
  clear R1 Z1 bw1 x2 ho hd hg sz1 hK
  have f1 : w2.cell? ⟨g, 0, none⟩ = some (.int .u64 r.b) := (S2.out.2.cell 0).trans (by simpa using r.at0)
  have r1 : w2.frozen? ⟨g, 0, none⟩ = false := S2.out.2.fr 0
  go_wp2_with (first | (with_reducible refine stop_load25 ?_) | (with_reducible refine stop_store25 ?_) | (with_reducible refine stop_load27 ?_) | (with_reducible refine stop_store27 ?_))
  have R3 : Hid (RB (w2.setCell ⟨g, 0, none⟩ (.int .u64 (r.b + 1))) B r) := Lib.hid (R2.out.far (by omega))
  have Z3 : Hid (Bk (w2.setCell ⟨g, 0, none⟩ (.int .u64 (r.b + 1))) (B + 1) 27 Z) := Lib.hid (Z2.out.far (by omega))
  have S3 : Hid (RB (w2.setCell ⟨g, 0, none⟩ (.int .u64 (r.b + 1))) g s) := by rw [← HS.out]; exact Lib.hid (S2.out.put0 _)
  have bw3 : Below B w (w2.setCell ⟨g, 0, none⟩ (.int .u64 (r.b + 1))) := bw2.setCell (p := ⟨g, 0, none⟩) (by show B ≤ g; omega) _
  clear R2 Z2 S2 bw2 f1 r1
  generalize w2.setCell ⟨g, 0, none⟩ (.int .u64 (r.b + 1)) = w3 at *
  (with_reducible refine ⟨?_⟩); (with_reducible refine at_any ?_ ?_); (focus go_simp); refine fun K hK => wp_ldr _ _ r rfl rfl R3.out (hK _ _ ?_)
  clear hK
  go_wp2_with (first | (with_reducible refine stop_load25 ?_) | (with_reducible refine stop_store25 ?_) | (with_reducible refine stop_load27 ?_) | (with_reducible refine stop_store27 ?_))
  (with_reducible refine ⟨?_⟩); (with_reducible refine at_any ?_ ?_); (focus go_simp); refine fun K hK => wp_ldr _ _ s rfl rfl S3.out (hK _ _ ?_)
  clear hK
  go_wp2_with (first | (with_reducible refine stop_load25 ?_) | (with_reducible refine stop_store25 ?_) | (with_reducible refine stop_load27 ?_) | (with_reducible refine stop_store27 ?_))
  refine (ST.out _).mono ?_
  rintro e w5 ⟨rfl, x5⟩
  have Z5 := Lib.hid (Z3.out.ext x5)
  have hl4 := Z3.out.lt
  have bw5 : Below B w w5 := bw3.trans (x5.mono (by omega))
  clear R3 Z3 S3 bw3 x5 ST
  go_wp2_with (first | (with_reducible refine stop_load25 ?_) | (with_reducible refine stop_store25 ?_) | (with_reducible refine stop_load27 ?_) | (with_reducible refine stop_store27 ?_))
  (with_reducible refine ⟨?_⟩); (with_reducible refine at_any ?_ ?_); (focus go_simp); refine fun K hK => wp_str _ _ (B + 1) k rfl rfl rfl HK.out Z5.out zl (fun w6 hd ho => hK _ _ ?_)
  have bw6 := ho.below B (by omega) w bw5
  clear ho hK Z5 bw5
  go_wp2_with (first | (with_reducible refine stop_load25 ?_) | (with_reducible refine stop_store25 ?_) | (with_reducible refine stop_load27 ?_) | (with_reducible refine stop_store27 ?_))
  rw [hB.out] at bw6
  exact bodyPost_ret (res_reg rfl _ _ (B + 1) rfl k hd) rfl ⟨rfl, bw6⟩
structure Inv (r : Rg) (i : Int) : Prop where
  b0 : 0 ≤ r.b
  b1 : r.b ≤ i
  c0 : 0 ≤ r.c
  c1 : r.c ≤ i
  a0 : 0 ≤ r.a
  a1 : r.a ≤ r.c
  d : r.c - r.a ≤ 8
  p : r.p = 0 ∨ r.p = 1
  z : 0 < r.c ∨ r.l = zeroL
  l : r.l.length = 16
theorem Inv.ok {r : Rg} {i : Int} (h : Inv r i) : r.Ok := ⟨h.b0, h.c0, h.a0, h.l⟩
theorem Inv.right {r : Rg} {i : Int} (h : Inv r i) (hi : i ≤ 100) : r.right = true := by
  have := h.b1; have := h.c1
  exact Rg.right_yes (by omega) (by omega) h.a1 h.d h.p h.z
theorem Inv.more {r : Rg} {i j : Int} (h : Inv r i) (hi : i ≤ j) : Inv r j := ⟨h.b0, by have := h.b1; omega, h.c0, by have := h.c1; omega, h.a0, h.a1, h.d, h.p, h.z, h.l⟩
theorem Inv.boot {r : Rg} {i : Int} (h : Inv r i) : Inv r.boot (i + 1) := ⟨by have := h.b0; show 0 ≤ r.b + 1; omega, by have := h.b1; show r.b + 1 ≤ i + 1; omega, h.c0, by have := h.c1; show r.c ≤ i + 1; omega, h.a0, h.a1, h.d, h.p, h.z, h.l⟩
theorem Inv.next {r : Rg} {i : Int} {H : List UInt8} (hH : H.length = 16) (h : Inv r i) (hd : r.c - r.a < 8) : Inv (r.next H) (i + 1) :=
  ⟨h.b0, by have := h.b1; show r.b ≤ i + 1; omega, by have := h.c0; show 0 ≤ r.c + 1; omega, by have := h.c1; show r.c + 1 ≤ i + 1; omega, h.a0, by have := h.a1; show r.a ≤ r.c + 1; omega, by show r.c + 1 - r.a ≤ 8; omega, h.p, Or.inl (by have := h.c0; show 0 < r.c + 1; omega), hH⟩
theorem Inv.fold {r : Rg} {i : Int} {H : List UInt8} (hH : H.length = 16) (h : Inv r i) (hd : r.a < r.c) : Inv (r.fold H) (i + 1) :=
  ⟨h.b0, by have := h.b1; show r.b ≤ i + 1; omega, h.c0, by have := h.c1; show r.c ≤ i + 1; omega, h.c0, by show r.c ≤ r.c; omega, by show r.c - r.c ≤ 8; omega, by have := h.p; show 1 - r.p = 0 ∨ 1 - r.p = 1; omega, Or.inl (by have := h.a0; show 0 < r.c; omega), hH⟩
section
variable {r : Rg} {i : Int} {H : List UInt8}
theorem Inv.cnext (h : Inv r i) (hi : i < 100) (hH : H.length = 16) : ∃ (X : Rg) (q : Bool), X.l.length = 16 ∧ (q = true → X = r.next H ∧ r.c - r.a < 8) ∧ (q = false → r.c - r.a = 8) ∧ ∀ w, Calls Try.prog 13 #[r.V, digV H] w fun e w' => e = .returned (.tuple #[X.V, .bool q]) ∧ Below w.heap.size w w' := by
  have hc := h.c1
  by_cases hd : r.c - r.a < 8
  · refine ⟨r.next H, true, hH, fun _ => ⟨rfl, hd⟩, (fun z => by cases z), fun w => (next_one r h.ok H hH (by omega) w).mono (fun e w' k => ⟨k.1.trans (by
      unfold keptV; rw [h.right (by omega), (h.next hH hd).right (by omega)]; rfl), k.2⟩)⟩
  · have := h.d
    refine ⟨zeroRg, false, rfl, (fun z => by cases z), fun _ => by omega, fun w => (next_one r h.ok H hH (by omega) w).mono (fun e w' k => ⟨k.1.trans (by
      have e1 : (r.next H).right = false := Rg.right_over (by show 8 < r.c + 1 - r.a; omega)
      unfold keptV; rw [e1]; simp), k.2⟩)⟩
theorem Inv.cfold (h : Inv r i) (hi : i < 100) (hH : H.length = 16) : ∃ (X : Rg) (q : Bool), X.l.length = 16 ∧ (q = true → X = r.fold H ∧ r.a < r.c) ∧ (q = false → r.c - r.a = 0) ∧ ∀ w, Calls Try.prog 15 #[r.V, digV H] w fun e w' => e = .returned (.tuple #[X.V, .bool q]) ∧ Below w.heap.size w w' := by
  have hc := h.c1
  have hp := h.p
  have ha := h.a1
  by_cases hd : r.a < r.c
  · refine ⟨r.fold H, true, hH, fun _ => ⟨rfl, hd⟩, (fun z => by cases z), fun w => (fold_one r h.ok H hH (by omega) (by omega) (by omega) w).mono (fun e w' k => ⟨k.1.trans (by
      unfold foldV; rw [if_neg (by omega)]; unfold keptV; rw [h.right (by omega), (h.fold hH hd).right (by omega)]; rfl), k.2⟩)⟩
  · refine ⟨zeroRg, false, rfl, (fun z => by cases z), fun _ => by omega, fun w => (fold_one r h.ok H hH (by omega) (by omega) (by omega) w).mono (fun e w' k => ⟨k.1.trans (by
      unfold foldV; rw [if_pos (by omega)]), k.2⟩)⟩
theorem Inv.cboot (h : Inv r i) (hi : i < 100) (w : World) : Calls Try.prog 14 #[r.V] w fun e w' => e = .returned (.tuple #[r.boot.V, .bool true]) ∧ Below w.heap.size w w' :=
  (boot_one r h.ok (by have := h.b1; omega) w).mono (fun e w' k => ⟨k.1.trans (by
      unfold keptV; rw [h.right (by omega), h.boot.right (by omega)]; rfl), k.2⟩)
theorem Inv.cheld (h : Inv r i) (hi : i ≤ 100) (w : World) : Calls Try.prog 16 #[r.V] w fun e w' => e = .returned (.int .i64 (r.c - r.a)) ∧ Below w.heap.size w w' :=
  (held_one r h.ok w).mono (fun e w' k => ⟨k.1.trans (by rw [(Rg.held_is (h.right hi)).1]), k.2⟩)
theorem Inv.cright (h : Inv r i) (hi : i ≤ 100) (w : World) : Calls Try.prog 18 #[r.V] w fun e w' => e = .returned (.bool true) ∧ Below w.heap.size w w' :=
  (right_one r h.ok w).mono (fun e w' k => ⟨k.1.trans (by rw [h.right hi]), k.2⟩)
theorem Inv.cbehind {s : Rg} {j : Int} (h : Inv r i) (k : Inv s j) (h1 : r.b ≤ s.b) (h2 : r.c ≤ s.c) (w : World) : Calls Try.prog 17 #[s.V, r.V] w fun e w' => e = .returned (.bool false) ∧ Below w.heap.size w w' :=
  (behind_one s r k.ok h.ok w).mono (fun e w' z => ⟨z.1.trans (by
    have e1 : (decide (s.b < r.b) || decide (s.c < r.c)) = false := by simp; omega
    rw [e1]), z.2⟩)
end
theorem Inv.zero : Inv zeroRg 0 := ⟨by decide, by decide, by decide, by decide, by decide, by decide, by decide, Or.inl rfl, Or.inr rfl, rfl⟩
end Go.Proofs.Ytlebanghcbkejaa
