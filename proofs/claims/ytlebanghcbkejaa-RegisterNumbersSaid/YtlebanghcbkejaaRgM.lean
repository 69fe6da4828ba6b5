/- Boot of package register for any register -/
import Derived.Test.YtlebanghcbkejaaRgL
namespace Go.Proofs.Ytlebanghcbkejaa
open Go.RowKit
def Rg.bootOver (r : Rg) : Rg := ⟨0, r.c, r.a, r.l, r.p⟩
set_option maxHeartbeats 2000000 in
set_option maxRecDepth 100000 in
theorem boot_lt (r : Rg) (ok : r.Ok) (hc : r.b < 18446744073709551615) (w : World) :
    Calls Try.prog 14 #[r.V] w fun e w' => e = .returned (keptV r r.boot) ∧ Below w.heap.size w w' := by
  have ST := Lib.hid (fun W => step_one r r.boot ok ⟨by have := ok.b0; show 0 ≤ r.b + 1; omega, ok.c0, ok.a0, ok.l16⟩ W)
  have hc0 := ok.b0
  have HR := Lib.hid ok.l16
  have HK := Lib.hid (kept_len r r.boot ok.l16)
  obtain ⟨cs, hcs⟩ : ∃ cs, cs = r.C.toArray := ⟨_, rfl⟩
  have hv : r.V = .agg cs := by rw [hcs]; rfl
  have R0 : Hid (∀ Z, RB ((w.alloc (.cells cs 27)).alloc (.cells Z 27)) w.heap.size r) := by
    rw [hcs]; exact Lib.hid fun Z => ⟨HR.out, (Bk.new rfl _ _).more _⟩
  have Z0 : Hid (∀ Z, Bk ((w.alloc (.cells cs 27)).alloc (.cells Z 27)) (w.heap.size + 1) 27 Z) := Lib.hid fun Z => Bk.new (by simp) _ _
  have bw : ∀ Z, Below w.heap.size w ((w.alloc (.cells cs 27)).alloc (.cells Z 27)) := fun Z => ((Below.refl _ _).alloc (Nat.le_refl _) _).alloc (by simp) _
  have BW := Lib.hid bw
  have sz : ∀ Z, ((w.alloc (.cells cs 27)).alloc (.cells Z 27)).heap.size = w.heap.size + 1 + 1 := fun Z => by simp
  have SZ := Lib.hid sz
  obtain ⟨s, hs⟩ : ∃ s, s = r.boot := ⟨_, rfl⟩
  have hs2 : (⟨r.b + 1, r.c, r.a, r.l, r.p⟩ : Rg) = s := by rw [hs]; rfl
  rw [← hs] at ST HK ⊢
  have HS := Lib.hid hs2
  obtain ⟨q, hq⟩ : ∃ q, q = (r.right && s.right) := ⟨_, rfl⟩
  obtain ⟨k, hk⟩ : ∃ k, k = (if (r.right && s.right) = true then s else zeroRg) := ⟨_, rfl⟩
  have hkv : keptV r s = .tuple #[k.V, .bool q] := by rw [hk, hq]; rfl
  rw [← hk, ← hq] at ST
  rw [← hk] at HK
  rw [hkv]
  clear hk hq hkv
  rw [hv]
  clear hv hcs bw sz hs hs2 ok
  go_enter Try.func14, Try.ntmps14
  go_wp2_with (first | (with_reducible refine stop_load25 ?_) | (with_reducible refine stop_store25 ?_) | (with_reducible refine stop_load27 ?_) | (with_reducible refine stop_store27 ?_))
  (with_reducible refine ⟨?_⟩); (with_reducible refine at_any ?_ ?_); (focus go_simp); refine fun K hK => wp_ldr _ _ r rfl rfl (R0.out _) (hK _ _ ?_)
  generalize hw1 : (w.alloc (.cells cs 27)).alloc (.cells _ 27) = w1
  obtain ⟨B, hB⟩ : ∃ B, B = w.heap.size := ⟨_, rfl⟩
  have R1 : RB w1 B r := by rw [← hw1, hB]; exact R0.out _
  have ⟨Z, zl, Z1⟩ : ∃ Z : Array Value, Z.size = 20 ∧ Bk w1 (B + 1) 27 Z := ⟨zeroRg.C.toArray, rfl, by rw [← hw1, hB]; exact Z0.out _⟩
  have bw1 : Below B w w1 := by rw [← hw1, hB]; exact BW.out _
  have sz1 : B + 2 ≤ w1.heap.size := by rw [← hw1, hB, SZ.out _]; omega
  rw [← hB]
  replace hB := Lib.hid hB
  clear R0 Z0 BW SZ hw1
  go_wp2_with (first | (with_reducible refine stop_load25 ?_) | (with_reducible refine stop_store25 ?_) | (with_reducible refine stop_load27 ?_) | (with_reducible refine stop_store27 ?_))
  have x2 : ∀ Z, Ex w1 (w1.alloc (.cells Z 27)) := fun Z => (Below.refl _ _).alloc (Nat.le_refl _) _
  (with_reducible refine ⟨?_⟩); (with_reducible refine at_any ?_ ?_); (focus go_simp); refine fun K hK => wp_str _ _ w1.heap.size r rfl rfl rfl HR.out (Bk.new rfl _ _) rfl (fun w2 hd ho => hK _ _ ?_)
  have R2 := Lib.hid (ho.rb (R1.ext (x2 _)) (by omega))
  have Z2 := Lib.hid (ho.bk (Z1.ext (x2 _)) (by omega))
  have bw2 := ho.below B (by omega) w (Below.trans bw1 ((x2 zeroRg.C.toArray).mono (by omega)))
  obtain ⟨g, hg⟩ : ∃ g, g = w1.heap.size := ⟨_, rfl⟩
  rw [← hg] at hd ⊢
  have S2 := Lib.hid hd
  have gB : B + 1 < g := by omega
  clear R1 Z1 bw1 x2 ho hd hg sz1 hK
  have f1 : w2.cell? ⟨g, 0, none⟩ = some (.int .u64 r.b) := (S2.out.2.cell 0).trans (by simpa using r.at0)
  have r1 : w2.frozen? ⟨g, 0, none⟩ = false := S2.out.2.fr 0
  go_wp2_with (first | (with_reducible refine stop_load25 ?_) | (with_reducible refine stop_store25 ?_) | (with_reducible refine stop_load27 ?_) | (with_reducible refine stop_store27 ?_))
  have R3 : Hid (RB (w2.setCell ⟨g, 0, none⟩ (.int .u64 (r.b + 1))) B r) := Lib.hid (R2.out.far (by omega))
  have Z3 : Hid (Bk (w2.setCell ⟨g, 0, none⟩ (.int .u64 (r.b + 1))) (B + 1) 27 Z) := Lib.hid (Z2.out.far (by omega))
  have S3 : Hid (RB (w2.setCell ⟨g, 0, none⟩ (.int .u64 (r.b + 1))) g s) := by rw [← HS.out]; exact Lib.hid (S2.out.put0 _)
  have bw3 : Below B w (w2.setCell ⟨g, 0, none⟩ (.int .u64 (r.b + 1))) := bw2.setCell (p := ⟨g, 0, none⟩) (by show B ≤ g; omega) _
  clear R2 Z2 S2 bw2 f1 r1
  generalize w2.setCell ⟨g, 0, none⟩ (.int .u64 (r.b + 1)) = w3 at *
  (with_reducible refine ⟨?_⟩); (with_reducible refine at_any ?_ ?_); (focus go_simp); refine fun K hK => wp_ldr _ _ r rfl rfl R3.out (hK _ _ ?_)
  clear hK
  go_wp2_with (first | (with_reducible refine stop_load25 ?_) | (with_reducible refine stop_store25 ?_) | (with_reducible refine stop_load27 ?_) | (with_reducible refine stop_store27 ?_))
  (with_reducible refine ⟨?_⟩); (with_reducible refine at_any ?_ ?_); (focus go_simp); refine fun K hK => wp_ldr _ _ s rfl rfl S3.out (hK _ _ ?_)
  clear hK
  go_wp2_with (first | (with_reducible refine stop_load25 ?_) | (with_reducible refine stop_store25 ?_) | (with_reducible refine stop_load27 ?_) | (with_reducible refine stop_store27 ?_))
  refine (ST.out _).mono ?_
  rintro e w5 ⟨rfl, x5⟩
  have Z5 := Lib.hid (Z3.out.ext x5)
  have hl4 := Z3.out.lt
  have bw5 : Below B w w5 := bw3.trans (x5.mono (by omega))
  clear R3 Z3 S3 bw3 x5 ST
  go_wp2_with (first | (with_reducible refine stop_load25 ?_) | (with_reducible refine stop_store25 ?_) | (with_reducible refine stop_load27 ?_) | (with_reducible refine stop_store27 ?_))
  (with_reducible refine ⟨?_⟩); (with_reducible refine at_any ?_ ?_); (focus go_simp); refine fun K hK => wp_str _ _ (B + 1) k rfl rfl rfl HK.out Z5.out zl (fun w6 hd ho => hK _ _ ?_)
  have bw6 := ho.below B (by omega) w bw5
  clear ho hK Z5 bw5
  go_wp2_with (first | (with_reducible refine stop_load25 ?_) | (with_reducible refine stop_store25 ?_) | (with_reducible refine stop_load27 ?_) | (with_reducible refine stop_store27 ?_))
  rw [hB.out] at bw6
  exact bodyPost_ret (res_reg rfl _ _ (B + 1) rfl k hd) rfl ⟨rfl, bw6⟩
set_option maxHeartbeats 2000000 in
set_option maxRecDepth 100000 in
theorem boot_max0 (r : Rg) (ok : r.Ok) (hc : r.b = 18446744073709551615) (w : World) :
    Calls Try.prog 14 #[r.V] w fun e w' => e = .returned (keptV r r.bootOver) ∧ Below w.heap.size w w' := by
  have ST := Lib.hid (fun W => step_one r r.bootOver ok ⟨by show (0:Int) ≤ 0; omega, ok.c0, ok.a0, ok.l16⟩ W)
  have d0 : r.C[0]? = some (.int .u64 18446744073709551615) := by rw [← hc]; exact r.at0
  have HR := Lib.hid ok.l16
  have HK := Lib.hid (kept_len r r.bootOver ok.l16)
  obtain ⟨cs, hcs⟩ : ∃ cs, cs = r.C.toArray := ⟨_, rfl⟩
  have hv : r.V = .agg cs := by rw [hcs]; rfl
  have R0 : Hid (∀ Z, RB ((w.alloc (.cells cs 27)).alloc (.cells Z 27)) w.heap.size r) := by
    rw [hcs]; exact Lib.hid fun Z => ⟨HR.out, (Bk.new rfl _ _).more _⟩
  have Z0 : Hid (∀ Z, Bk ((w.alloc (.cells cs 27)).alloc (.cells Z 27)) (w.heap.size + 1) 27 Z) := Lib.hid fun Z => Bk.new (by simp) _ _
  have bw : ∀ Z, Below w.heap.size w ((w.alloc (.cells cs 27)).alloc (.cells Z 27)) := fun Z => ((Below.refl _ _).alloc (Nat.le_refl _) _).alloc (by simp) _
  have BW := Lib.hid bw
  have sz : ∀ Z, ((w.alloc (.cells cs 27)).alloc (.cells Z 27)).heap.size = w.heap.size + 1 + 1 := fun Z => by simp
  have SZ := Lib.hid sz
  obtain ⟨s, hs⟩ : ∃ s, s = r.bootOver := ⟨_, rfl⟩
  have hs2 : (⟨0, r.c, r.a, r.l, r.p⟩ : Rg) = s := by rw [hs]; rfl
  rw [← hs] at ST HK ⊢
  have HS := Lib.hid hs2
  obtain ⟨q, hq⟩ : ∃ q, q = (r.right && s.right) := ⟨_, rfl⟩
  obtain ⟨k, hk⟩ : ∃ k, k = (if (r.right && s.right) = true then s else zeroRg) := ⟨_, rfl⟩
  have hkv : keptV r s = .tuple #[k.V, .bool q] := by rw [hk, hq]; rfl
  rw [← hk, ← hq] at ST
  rw [← hk] at HK
  rw [hkv]
  clear hk hq hkv
  rw [hv]
  clear hv hcs bw sz hs hs2 ok hc
  go_enter Try.func14, Try.ntmps14
  go_wp2_with (first | (with_reducible refine stop_load25 ?_) | (with_reducible refine stop_store25 ?_) | (with_reducible refine stop_load27 ?_) | (with_reducible refine stop_store27 ?_))
  (with_reducible refine ⟨?_⟩); (with_reducible refine at_any ?_ ?_); (focus go_simp); refine fun K hK => wp_ldr _ _ r rfl rfl (R0.out _) (hK _ _ ?_)
  generalize hw1 : (w.alloc (.cells cs 27)).alloc (.cells _ 27) = w1
  obtain ⟨B, hB⟩ : ∃ B, B = w.heap.size := ⟨_, rfl⟩
  have R1 : RB w1 B r := by rw [← hw1, hB]; exact R0.out _
  have ⟨Z, zl, Z1⟩ : ∃ Z : Array Value, Z.size = 20 ∧ Bk w1 (B + 1) 27 Z := ⟨zeroRg.C.toArray, rfl, by rw [← hw1, hB]; exact Z0.out _⟩
  have bw1 : Below B w w1 := by rw [← hw1, hB]; exact BW.out _
  have sz1 : B + 2 ≤ w1.heap.size := by rw [← hw1, hB, SZ.out _]; omega
  rw [← hB]
  replace hB := Lib.hid hB
  clear R0 Z0 BW SZ hw1
  go_wp2_with (first | (with_reducible refine stop_load25 ?_) | (with_reducible refine stop_store25 ?_) | (with_reducible refine stop_load27 ?_) | (with_reducible refine stop_store27 ?_))
  have x2 : ∀ Z, Ex w1 (w1.alloc (.cells Z 27)) := fun Z => (Below.refl _ _).alloc (Nat.le_refl _) _
  (with_reducible refine ⟨?_⟩); (with_reducible refine at_any ?_ ?_); (focus go_simp); refine fun K hK => wp_str _ _ w1.heap.size r rfl rfl rfl HR.out (Bk.new rfl _ _) rfl (fun w2 hd ho => hK _ _ ?_)
  have R2 := Lib.hid (ho.rb (R1.ext (x2 _)) (by omega))
  have Z2 := Lib.hid (ho.bk (Z1.ext (x2 _)) (by omega))
  have bw2 := ho.below B (by omega) w (Below.trans bw1 ((x2 zeroRg.C.toArray).mono (by omega)))
  obtain ⟨g, hg⟩ : ∃ g, g = w1.heap.size := ⟨_, rfl⟩
  rw [← hg] at hd ⊢
  have S2 := Lib.hid hd
  have gB : B + 1 < g := by omega
  clear R1 Z1 bw1 x2 ho hd hg sz1 hK
  have f1 : w2.cell? ⟨g, 0, none⟩ = some (.int .u64 18446744073709551615) := (S2.out.2.cell 0).trans (by simpa using d0)
  have r1 : w2.frozen? ⟨g, 0, none⟩ = false := S2.out.2.fr 0
  go_wp2_with (first | (with_reducible refine stop_load25 ?_) | (with_reducible refine stop_store25 ?_) | (with_reducible refine stop_load27 ?_) | (with_reducible refine stop_store27 ?_))
  rw [show IntKind.u64.wrap 18446744073709551616 = 0 from by decide]
  have R3 : Hid (RB (w2.setCell ⟨g, 0, none⟩ (.int .u64 (0))) B r) := Lib.hid (R2.out.far (by omega))
  have Z3 : Hid (Bk (w2.setCell ⟨g, 0, none⟩ (.int .u64 (0))) (B + 1) 27 Z) := Lib.hid (Z2.out.far (by omega))
  have S3 : Hid (RB (w2.setCell ⟨g, 0, none⟩ (.int .u64 (0))) g s) := by rw [← HS.out]; exact Lib.hid (S2.out.put0 _)
  have bw3 : Below B w (w2.setCell ⟨g, 0, none⟩ (.int .u64 (0))) := bw2.setCell (p := ⟨g, 0, none⟩) (by show B ≤ g; omega) _
  clear R2 Z2 S2 bw2 f1 r1
  generalize w2.setCell ⟨g, 0, none⟩ (.int .u64 (0)) = w3 at *
  (with_reducible refine ⟨?_⟩); (with_reducible refine at_any ?_ ?_); (focus go_simp); refine fun K hK => wp_ldr _ _ r rfl rfl R3.out (hK _ _ ?_)
  clear hK
  go_wp2_with (first | (with_reducible refine stop_load25 ?_) | (with_reducible refine stop_store25 ?_) | (with_reducible refine stop_load27 ?_) | (with_reducible refine stop_store27 ?_))
  (with_reducible refine ⟨?_⟩); (with_reducible refine at_any ?_ ?_); (focus go_simp); refine fun K hK => wp_ldr _ _ s rfl rfl S3.out (hK _ _ ?_)
  clear hK
  go_wp2_with (first | (with_reducible refine stop_load25 ?_) | (with_reducible refine stop_store25 ?_) | (with_reducible refine stop_load27 ?_) | (with_reducible refine stop_store27 ?_))
  refine (ST.out _).mono ?_
  rintro e w5 ⟨rfl, x5⟩
  have Z5 := Lib.hid (Z3.out.ext x5)
  have hl4 := Z3.out.lt
  have bw5 : Below B w w5 := bw3.trans (x5.mono (by omega))
  clear R3 Z3 S3 bw3 x5 ST
  go_wp2_with (first | (with_reducible refine stop_load25 ?_) | (with_reducible refine stop_store25 ?_) | (with_reducible refine stop_load27 ?_) | (with_reducible refine stop_store27 ?_))
  (with_reducible refine ⟨?_⟩); (with_reducible refine at_any ?_ ?_); (focus go_simp); refine fun K hK => wp_str _ _ (B + 1) k rfl rfl rfl HK.out Z5.out zl (fun w6 hd ho => hK _ _ ?_)
  have bw6 := ho.below B (by omega) w bw5
  clear ho hK Z5 bw5
  go_wp2_with (first | (with_reducible refine stop_load25 ?_) | (with_reducible refine stop_store25 ?_) | (with_reducible refine stop_load27 ?_) | (with_reducible refine stop_store27 ?_))
  rw [hB.out] at bw6
  exact bodyPost_ret (res_reg rfl _ _ (B + 1) rfl k hd) rfl ⟨rfl, bw6⟩
theorem Rg.right_late {r : Rg} (h : 1099511627776 < r.b) : r.right = false := by
  unfold Rg.right
  have h2 : decide (r.b ≤ 1099511627776) = false := by simp; omega
  rw [h2]; simp
theorem boot_any (r : Rg) (ok : r.Ok) (hc : r.b < 18446744073709551616) (w : World) :
    Calls Try.prog 14 #[r.V] w fun e w' => e = .returned (keptV r r.boot) ∧ Below w.heap.size w w' := by
  by_cases h : r.b < 18446744073709551615
  · exact boot_lt r ok h w
  · have h : r.b = 18446744073709551615 := by omega
    rw [kept_wrong (Rg.right_late (by omega)) r.boot r.bootOver]
    exact boot_max0 r ok h w
end Go.Proofs.Ytlebanghcbkejaa
