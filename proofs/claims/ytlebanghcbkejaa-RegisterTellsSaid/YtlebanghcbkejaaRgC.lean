/- Fold of package register -/
import Derived.Test.YtlebanghcbkejaaRgB
namespace Go.Proofs.Ytlebanghcbkejaa
open Go.RowKit
def foldV (r : Rg) (H : List UInt8) : Value := if r.c ≤ r.a then .tuple #[zeroRg.V, .bool false] else keptV r (r.fold H)
set_option maxHeartbeats 2000000 in
set_option maxRecDepth 100000 in
theorem fold_one (r : Rg) (ok : r.Ok) (H : List UInt8) (hH : H.length = 16) (hc : r.c < 9000000000000000000) (hp0 : 0 ≤ r.p) (hp1 : r.p ≤ 1) (w : World) :
    Calls Try.prog 15 #[r.V, digV H] w fun e w' => e = .returned (foldV r H) ∧ Below w.heap.size w w' := by
  have ST := Lib.hid (fun W => step_one r (r.fold H) ok ⟨ok.b0, ok.c0, ok.c0, hH⟩ W)
  have hc0 := ok.c0
  have HR := Lib.hid ok.l16
  have HK := Lib.hid (kept_len r (r.fold H) hH)
  have HH := Lib.hid hH
  obtain ⟨cs, hcs⟩ : ∃ cs, cs = r.C.toArray := ⟨_, rfl⟩
  have hv : r.V = .agg cs := by rw [hcs]; rfl
  obtain ⟨ds, hds⟩ : ∃ cs, cs = (Lib.byteCells H).toArray := ⟨_, rfl⟩
  have hv' : digV H = .agg ds := by rw [hds]; rfl
  have R0 : Hid (∀ Z, RB (((w.alloc (.cells cs 27)).alloc (.cells ds 25)).alloc (.cells Z 27)) w.heap.size r) := by
    rw [hcs]; exact Lib.hid fun Z => ⟨HR.out, ((Bk.new rfl _ _).more _).more _⟩
  have H0 : Hid (∀ Z, DB (((w.alloc (.cells cs 27)).alloc (.cells ds 25)).alloc (.cells Z 27)) (w.heap.size + 1) H) := by
    rw [hds]; exact Lib.hid fun Z => ⟨HH.out, (Bk.new (by simp) _ _).more _⟩
  have Z0 : Hid (∀ Z, Bk (((w.alloc (.cells cs 27)).alloc (.cells ds 25)).alloc (.cells Z 27)) (w.heap.size + 1 + 1) 27 Z) := Lib.hid fun Z => Bk.new (by simp) _ _
  have bw : ∀ Z, Below w.heap.size w (((w.alloc (.cells cs 27)).alloc (.cells ds 25)).alloc (.cells Z 27)) := fun Z => (((Below.refl _ _).alloc (Nat.le_refl _) _).alloc (by simp) _).alloc (by simp; omega) _
  have BW := Lib.hid bw
  have sz : ∀ Z, (((w.alloc (.cells cs 27)).alloc (.cells ds 25)).alloc (.cells Z 27)).heap.size = w.heap.size + 1 + 1 + 1 := fun Z => by simp
  have SZ := Lib.hid sz
  have hR : RB w 0 r → True := fun _ => trivial
  have ha0 := ok.a0
  obtain ⟨s, hs⟩ : ∃ s, s = r.fold H := ⟨_, rfl⟩
  have hs2 : (⟨r.b, r.c, r.c, H, 1 - r.p⟩ : Rg) = s := by rw [hs]; rfl
  rw [← hs] at ST HK
  have HS := Lib.hid hs2
  obtain ⟨q, hq⟩ : ∃ q, q = (r.right && s.right) := ⟨_, rfl⟩
  obtain ⟨k, hk⟩ : ∃ k, k = (if (r.right && s.right) = true then s else zeroRg) := ⟨_, rfl⟩
  have hkv : foldV r H = if r.c ≤ r.a then .tuple #[zeroRg.V, .bool false] else .tuple #[k.V, .bool q] := by rw [hk, hq, hs]; rfl
  rw [← hk, ← hq] at ST
  rw [← hk] at HK
  rw [hkv]
  clear hk hq hkv
  rw [hv, hv'] 
  clear hv hv' hcs hds bw sz hR hs hs2 ok hH
  go_enter Try.func15, Try.ntmps15
  have c1 : ∀ Z, (((w.alloc (.cells cs 27)).alloc (.cells ds 25)).alloc (.cells Z 27)).cell? ⟨w.heap.size, 1, none⟩ = some (.int .u64 r.c) := fun Z => ((R0.out Z).2.cell 1).trans (by simpa using r.at1)
  have c2 : ∀ Z, (((w.alloc (.cells cs 27)).alloc (.cells ds 25)).alloc (.cells Z 27)).cell? ⟨w.heap.size, 2, none⟩ = some (.int .u64 r.a) := fun Z => ((R0.out Z).2.cell 2).trans (by simpa using r.at2)
  by_cases hle : r.c ≤ r.a
  · rw [if_pos hle]
    go_wp2_with (first | (with_reducible refine stop_load25 ?_) | (with_reducible refine stop_store25 ?_) | (with_reducible refine stop_load27 ?_) | (with_reducible refine stop_store27 ?_))
    generalize hw1 : ((w.alloc (.cells cs 27)).alloc (.cells ds 25)).alloc (.cells _ 27) = w1
    obtain ⟨B, hB⟩ : ∃ B, B = w.heap.size := ⟨_, rfl⟩
    have R1 : RB w1 B r := by rw [← hw1, hB]; exact R0.out _
    have H1 : DB w1 (B + 1) H := by rw [← hw1, hB]; exact H0.out _
    have ⟨Z, zl, Z1⟩ : ∃ Z : Array Value, Z.size = 20 ∧ Bk w1 (B + 1 + 1) 27 Z := ⟨zeroRg.C.toArray, rfl, by rw [← hw1, hB]; exact Z0.out _⟩
    have bw1 : Below B w w1 := by rw [← hw1, hB]; exact BW.out _
    have sz1 : B + 3 ≤ w1.heap.size := by rw [← hw1, hB, SZ.out _]; omega
    rw [← hB]
    replace hB := Lib.hid hB
    clear R0 H0 Z0 BW SZ hw1 c1 c2
    (with_reducible refine ⟨?_⟩); (with_reducible refine at_any ?_ ?_); (focus go_simp); refine fun K hK => wp_str _ _ (B + 1 + 1) zeroRg rfl rfl rfl rfl Z1 zl (fun w6 hd ho => hK _ _ ?_)
    have bw6 := ho.below B (by omega) w bw1
    clear ho hK Z1 bw1
    go_wp2_with (first | (with_reducible refine stop_load25 ?_) | (with_reducible refine stop_store25 ?_) | (with_reducible refine stop_load27 ?_) | (with_reducible refine stop_store27 ?_))
    rw [hB.out] at bw6
    exact bodyPost_ret (res_reg rfl _ _ (B + 1 + 1) rfl zeroRg hd) rfl ⟨rfl, bw6⟩
  · rw [if_neg hle]
    have hlt : r.a < r.c := by omega
    go_wp2_with (first | (with_reducible refine stop_load25 ?_) | (with_reducible refine stop_store25 ?_) | (with_reducible refine stop_load27 ?_) | (with_reducible refine stop_store27 ?_))
    generalize hw1 : ((w.alloc (.cells cs 27)).alloc (.cells ds 25)).alloc (.cells _ 27) = w1
    obtain ⟨B, hB⟩ : ∃ B, B = w.heap.size := ⟨_, rfl⟩
    have R1 : RB w1 B r := by rw [← hw1, hB]; exact R0.out _
    have H1 : DB w1 (B + 1) H := by rw [← hw1, hB]; exact H0.out _
    have ⟨Z, zl, Z1⟩ : ∃ Z : Array Value, Z.size = 20 ∧ Bk w1 (B + 1 + 1) 27 Z := ⟨zeroRg.C.toArray, rfl, by rw [← hw1, hB]; exact Z0.out _⟩
    have bw1 : Below B w w1 := by rw [← hw1, hB]; exact BW.out _
    have sz1 : B + 3 ≤ w1.heap.size := by rw [← hw1, hB, SZ.out _]; omega
    rw [← hB]
    replace hB := Lib.hid hB
    clear R0 H0 Z0 BW SZ hw1 c1 c2
    (with_reducible refine ⟨?_⟩); (with_reducible refine at_any ?_ ?_); (focus go_simp); refine fun K hK => wp_ldr _ _ r rfl rfl R1 (hK _ _ ?_)
    clear hK
    go_wp2_with (first | (with_reducible refine stop_load25 ?_) | (with_reducible refine stop_store25 ?_) | (with_reducible refine stop_load27 ?_) | (with_reducible refine stop_store27 ?_))
    have x2 : ∀ Z, Ex w1 (w1.alloc (.cells Z 27)) := fun Z => (Below.refl _ _).alloc (Nat.le_refl _) _
    (with_reducible refine ⟨?_⟩); (with_reducible refine at_any ?_ ?_); (focus go_simp); refine fun K hK => wp_str _ _ w1.heap.size r rfl rfl rfl HR.out (Bk.new rfl _ _) rfl (fun w2 hd ho => hK _ _ ?_)
    have R2 := Lib.hid (ho.rb (R1.ext (x2 _)) (by omega))
    have H2 := Lib.hid (ho.db (H1.ext (x2 _)) (by omega))
    have Z2 := Lib.hid (ho.bk (Z1.ext (x2 _)) (by omega))
    have bw2 := ho.below B (by omega) w (Below.trans bw1 ((x2 zeroRg.C.toArray).mono (by omega)))
    obtain ⟨g, hg⟩ : ∃ g, g = w1.heap.size := ⟨_, rfl⟩
    rw [← hg] at hd ⊢
    have S2 := Lib.hid hd
    have gB : B + 2 < g := by omega
    clear R1 H1 Z1 bw1 x2 ho hd hg sz1 hK
    have f1 : w2.cell? ⟨B, 1, none⟩ = some (.int .u64 r.c) := (R2.out.2.cell 1).trans (by simpa using r.at1)
    have f19 : (w2.setCell ⟨g, 2, none⟩ (.int .u64 r.c)).cell? ⟨B, 19, none⟩ = some (.int .i64 r.p) := ((R2.out.far (by omega)).2.cell 19).trans (by simpa using r.at19 HR.out)
    have r2 : w2.frozen? ⟨g, 2, none⟩ = false := S2.out.2.fr 2
    have r19 : (w2.setCell ⟨g, 2, none⟩ (.int .u64 r.c)).frozen? ⟨g, 19, none⟩ = false := (S2.out.put2 _).2.fr 19
    have g2 : w2.cell? ⟨g, 2, none⟩ = some (.int .u64 r.a) := (S2.out.2.cell 2).trans (by simpa using r.at2)
    have g19 : w2.cell? ⟨g, 19, none⟩ = some (.int .i64 r.p) := (S2.out.2.cell 19).trans (by simpa using r.at19 HR.out)
    have h19 : w2.cell? ⟨B, 19, none⟩ = some (.int .i64 r.p) := (R2.out.2.cell 19).trans (by simpa using r.at19 HR.out)
    have s19 : w2.frozen? ⟨g, 19, none⟩ = false := S2.out.2.fr 19
    have p1 : 0 ≤ 1 - r.p := by omega
    go_wp2_with (first | (with_reducible refine stop_load25 ?_) | (with_reducible refine stop_store25 ?_) | (with_reducible refine stop_load27 ?_) | (with_reducible refine stop_store27 ?_))
    have R3 : Hid (RB ((w2.setCell ⟨g, 2, none⟩ (.int .u64 r.c)).setCell ⟨g, 19, none⟩ (.int .i64 (1 - r.p))) B r) := Lib.hid ((R2.out.far (by omega)).far (by omega))
    have H3 : Hid (DB ((w2.setCell ⟨g, 2, none⟩ (.int .u64 r.c)).setCell ⟨g, 19, none⟩ (.int .i64 (1 - r.p))) (B + 1) H) := Lib.hid ((H2.out.far (by omega)).far (by omega))
    have Z3 : Hid (Bk ((w2.setCell ⟨g, 2, none⟩ (.int .u64 r.c)).setCell ⟨g, 19, none⟩ (.int .i64 (1 - r.p))) (B + 1 + 1) 27 Z) := Lib.hid ((Z2.out.far (by omega)).far (by omega))
    have S3 : Hid (RB ((w2.setCell ⟨g, 2, none⟩ (.int .u64 r.c)).setCell ⟨g, 19, none⟩ (.int .i64 (1 - r.p))) g ⟨r.b, r.c, r.c, r.l, 1 - r.p⟩) := Lib.hid ((S2.out.put2 _).put19 _)
    have bw3 : Below B w ((w2.setCell ⟨g, 2, none⟩ (.int .u64 r.c)).setCell ⟨g, 19, none⟩ (.int .i64 (1 - r.p))) := (bw2.setCell (p := ⟨g, 2, none⟩) (by show B ≤ g; omega) _).setCell (p := ⟨g, 19, none⟩) (by show B ≤ g; omega) _
    clear R2 H2 Z2 S2 bw2 f1 r2 f19 r19 g2 g19 h19 s19
    generalize (w2.setCell ⟨g, 2, none⟩ (.int .u64 r.c)).setCell ⟨g, 19, none⟩ (.int .i64 (1 - r.p)) = w3 at *
    (with_reducible refine ⟨?_⟩); (with_reducible refine at_any ?_ ?_); (focus go_simp); refine fun K hK => wp_ldh _ _ H rfl rfl H3.out (hK _ _ ?_)
    clear hK
    go_wp2_with (first | (with_reducible refine stop_load25 ?_) | (with_reducible refine stop_store25 ?_) | (with_reducible refine stop_load27 ?_) | (with_reducible refine stop_store27 ?_))
    (with_reducible refine ⟨?_⟩); (with_reducible refine at_any ?_ ?_); (focus go_simp); refine fun K hK => wp_strh _ _ g _ H rfl rfl rfl HH.out S3.out (fun w4 hd ho => hK _ _ ?_)
    have R4 := Lib.hid (ho.rb R3.out (by omega))
    have Z4 := Lib.hid (ho.bk Z3.out (by omega))
    have bw4 := ho.below B (by omega) w bw3
    have S4 : Hid (RB w4 g s) := by rw [← HS.out]; exact Lib.hid hd
    clear R3 H3 Z3 S3 bw3 hd ho hK
    go_wp2_with (first | (with_reducible refine stop_load25 ?_) | (with_reducible refine stop_store25 ?_) | (with_reducible refine stop_load27 ?_) | (with_reducible refine stop_store27 ?_))
    (with_reducible refine ⟨?_⟩); (with_reducible refine at_any ?_ ?_); (focus go_simp); refine fun K hK => wp_ldr _ _ r rfl rfl R4.out (hK _ _ ?_)
    clear hK
    go_wp2_with (first | (with_reducible refine stop_load25 ?_) | (with_reducible refine stop_store25 ?_) | (with_reducible refine stop_load27 ?_) | (with_reducible refine stop_store27 ?_))
    (with_reducible refine ⟨?_⟩); (with_reducible refine at_any ?_ ?_); (focus go_simp); refine fun K hK => wp_ldr _ _ s rfl rfl S4.out (hK _ _ ?_)
    clear hK
    go_wp2_with (first | (with_reducible refine stop_load25 ?_) | (with_reducible refine stop_store25 ?_) | (with_reducible refine stop_load27 ?_) | (with_reducible refine stop_store27 ?_))
    refine (ST.out _).mono ?_
    rintro e w5 ⟨rfl, x5⟩
    have Z5 := Lib.hid (Z4.out.ext x5)
    have hl4 := Z4.out.lt
    have bw5 : Below B w w5 := bw4.trans (x5.mono (by omega))
    clear R4 Z4 S4 bw4 x5 ST
    go_wp2_with (first | (with_reducible refine stop_load25 ?_) | (with_reducible refine stop_store25 ?_) | (with_reducible refine stop_load27 ?_) | (with_reducible refine stop_store27 ?_))
    (with_reducible refine ⟨?_⟩); (with_reducible refine at_any ?_ ?_); (focus go_simp); refine fun K hK => wp_str _ _ (B + 1 + 1) k rfl rfl rfl HK.out Z5.out zl (fun w6 hd ho => hK _ _ ?_)
    have bw6 := ho.below B (by omega) w bw5
    clear ho hK Z5 bw5
    go_wp2_with (first | (with_reducible refine stop_load25 ?_) | (with_reducible refine stop_store25 ?_) | (with_reducible refine stop_load27 ?_) | (with_reducible refine stop_store27 ?_))
    rw [hB.out] at bw6
    exact bodyPost_ret (res_reg rfl _ _ (B + 1 + 1) rfl k hd) rfl ⟨rfl, bw6⟩
end Go.Proofs.Ytlebanghcbkejaa
