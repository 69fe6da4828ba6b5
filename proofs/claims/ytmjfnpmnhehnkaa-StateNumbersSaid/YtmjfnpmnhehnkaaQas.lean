/- Sya, Sk, Sz -/
import Derived.Test.YtmjfnpmnhehnkaaQar
set_option maxRecDepth 100000
set_option maxHeartbeats 16000000
namespace Go.Proofs.Ytmjfnpmnhehnkaa
open Go.RowKit
theorem check_none (M : Nat) (x : Rk) (hk : ¬ (x.kind = 1 ∨ x.kind = 2 ∨ x.kind = 3 ∨ x.kind = 4)) (w : World) (hx : x.In w) : Calls Try.prog 54 #[.pointer (some ⟨M, 0, none⟩), x.V] w fun e w' => e = .returned (.int .i64 1) ∧ Ex w w' := by
  obtain ⟨cs, hcs⟩ : ∃ cs, cs = x.C.toArray := ⟨_, rfl⟩
  have A0 : Hid (KB9 (w.alloc (.cells cs 39)) w.heap.size x) := Hi ⟨hx.v.ok, by rw [hcs]; exact Bk.new rfl _ _⟩
  have B0 : Hid (Ex w (w.alloc (.cells cs 39))) := Hi (Ex.alloc _ _)
  rw [show (Calls Try.prog 54 #[.pointer (some ⟨M, 0, none⟩), x.V] w) = (Calls Try.prog 54 #[.pointer (some ⟨M, 0, none⟩), .agg cs] w) by rw [hcs]; rfl]
  have HX := Hi (hx.ext B0.out)
  have HK := Hi hk
  clear hcs hx hk
  go_enter Try.func54, Try.ntmps54
  go_wp2_with (first | ((with_reducible refine so0 ?_ ?_); (focus rfl)) | ((with_reducible refine so4 [112, 1000 + 112, 32, 39] ?_ ?_); (focus rfl)))
  (with_reducible refine ⟨?_⟩)
  change wpList _ _ _ _ _ (w.alloc (.cells cs 39))
  generalize hw1 : w.alloc (.cells cs 39) = w1 at *
  clear hw1
  obtain ⟨B, hB⟩ : ∃ B, B = w.heap.size := ⟨_, rfl⟩
  rw [← hB] at A0 ⊢
  clear hB
  (with_reducible refine at_any ?_ ?_); (focus go_simp); refine fun K0 hK => ld_rk _ B x rfl rfl A0.out (hK _ _ ?_)
  clear hK
  go_wp2_with fail
  refine (rrec_none x HK.out w1 HX.out).mono ?_
  rintro e w2 ⟨rfl, x2⟩
  have Z := Hi (Ex.trans B0.out x2)
  clear x2
  go_wp2_with fail
  go_ret
  exact ⟨rfl, Z.out⟩
theorem apply_none (M : Nat) (x : Rk) (hk : ¬ (x.kind = 1 ∨ x.kind = 2 ∨ x.kind = 3 ∨ x.kind = 4)) (w : World) (hx : x.In w) : Calls Try.prog 17 #[.pointer (some ⟨M, 0, none⟩), x.V] w fun e w' => e = .returned (.int .i64 1) ∧ Ex w w' := by
  obtain ⟨cs, hcs⟩ : ∃ cs, cs = x.C.toArray := ⟨_, rfl⟩
  have A0 : Hid (KB9 (w.alloc (.cells cs 39)) w.heap.size x) := Hi ⟨hx.v.ok, by rw [hcs]; exact Bk.new rfl _ _⟩
  have B0 : Hid (Ex w (w.alloc (.cells cs 39))) := Hi (Ex.alloc _ _)
  rw [show (Calls Try.prog 17 #[.pointer (some ⟨M, 0, none⟩), x.V] w) = (Calls Try.prog 17 #[.pointer (some ⟨M, 0, none⟩), .agg cs] w) by rw [hcs]; rfl]
  have HX := Hi (hx.ext B0.out)
  have HK := Hi hk
  clear hcs hx hk
  go_enter Try.func17, Try.ntmps17
  go_wp2_with (first | ((with_reducible refine so0 ?_ ?_); (focus rfl)) | ((with_reducible refine so4 [112, 1000 + 112, 32, 39] ?_ ?_); (focus rfl)))
  (with_reducible refine ⟨?_⟩)
  change wpList _ _ _ _ _ (w.alloc (.cells cs 39))
  generalize hw1 : w.alloc (.cells cs 39) = w1 at *
  clear hw1
  obtain ⟨B, hB⟩ : ∃ B, B = w.heap.size := ⟨_, rfl⟩
  rw [← hB] at A0 ⊢
  clear hB
  (with_reducible refine at_any ?_ ?_); (focus go_simp); refine fun K0 hK => ld_rk _ B x rfl rfl A0.out (hK _ _ ?_)
  clear hK
  go_wp2_with fail
  refine (check_none M x HK.out w1 HX.out).mono ?_
  rintro e w2 ⟨rfl, x2⟩
  have Z := Hi (Ex.trans B0.out x2)
  clear x2
  go_wp2_with fail
  go_ret
  exact ⟨rfl, Z.out⟩
end Go.Proofs.Ytmjfnpmnhehnkaa
namespace Go.Proofs.Ytmjfnpmnhehnkaa
open Go.RowKit
def OthPost (P : Prop) (w : World) (e : Ending) (w' : World) : Prop := ∃ b : Bool, e = .returned (.bool b) ∧ (b = true ↔ P) ∧ w = w'
theorem other_any (B M : Nat) (m n : Int) (p : Nat → Pa) (D : Nat → Nat) (r : Nat → Value) (v : Nat → List Vt) (t : Int) (w : World) (h : SS w B M m n p D r v) : Calls Try.prog 119 #[.pointer (some ⟨M, 0, none⟩), .int .i64 t] w (OthPost (0 ≤ t ∧ t < n ∧ t ≠ m) w) := by
 obtain ⟨c0, c1⟩ := h.heads
 clear h
 by_cases h0 : 0 ≤ t
 ·by_cases h1 : t < n
  ·by_cases h2 : t = m
   ·go_enter Try.func119, Try.ntmps119
    go_wp2_with fail
    go_ret
    first | exact ⟨false, rfl, ⟨(fun h => by cases h), fun h => by exfalso; omega⟩, rfl⟩ | exact ⟨_, rfl, ⟨fun h => ⟨by omega, by omega, h2⟩, fun _ => bne_iff_ne.2 h2⟩, rfl⟩
   skip
   go_enter Try.func119, Try.ntmps119
   go_wp2_with fail
   go_ret
   first | exact ⟨true, rfl, ⟨fun _ => ⟨by omega, by omega, by omega⟩, fun _ => rfl⟩, rfl⟩ | exact ⟨_, rfl, ⟨fun h => ⟨by omega, by omega, h2⟩, fun _ => bne_iff_ne.2 h2⟩, rfl⟩
  skip
  go_enter Try.func119, Try.ntmps119
  go_wp2_with fail
  go_ret
  first | exact ⟨false, rfl, ⟨(fun h => by cases h), fun h => by exfalso; omega⟩, rfl⟩ | exact ⟨_, rfl, ⟨fun h => ⟨by omega, by omega, h2⟩, fun _ => bne_iff_ne.2 h2⟩, rfl⟩
 skip
 go_enter Try.func119, Try.ntmps119
 go_wp2_with fail
 go_ret
 first | exact ⟨false, rfl, ⟨(fun h => by cases h), fun h => by exfalso; omega⟩, rfl⟩ | exact ⟨_, rfl, ⟨fun h => ⟨by omega, by omega, h2⟩, fun _ => bne_iff_ne.2 h2⟩, rfl⟩
def outE (m n : Int) (p : Pa) (t ep : Int) : Int := if ¬ (0 ≤ t ∧ t < n ∧ t ≠ m) then 1 else if heldE p ≠ 0 then heldE p else if ep = IntKind.u64.wrap (p.ep + 1) then 0 else 1
theorem cout_any (B9 M : Nat) (m n : Int) (p : Nat → Pa) (D : Nat → Nat) (r : Nat → Value) (v : Nat → List Vt) (x : Rk) (s : Nat) (hs : x.shard = (s : Int)) (hs16 : s < 16) (E1 : Int) (hE1 : E1 = outE m n (p s) x.tw x.ep) (w : World) (hx : x.In w) (h : SS w B9 M m n p D r v) : Calls Try.prog 93 #[.pointer (some ⟨M, 0, none⟩), x.V] w fun e w' => e = .returned (.int .i64 E1) ∧ Ex w w' := by
 have HE1 := Hi hE1
 clear hE1
 obtain ⟨cs, hcs⟩ : ∃ cs, cs = x.C.toArray := ⟨_, rfl⟩
 have A0 : Hid (KB9 (w.alloc (.cells cs 39)) w.heap.size x) := Hi ⟨hx.v.ok, by rw [hcs]; exact Bk.new rfl _ _⟩
 have B0 : Hid (Ex w (w.alloc (.cells cs 39))) := Hi (Ex.alloc _ _)
 have HS := Hi (h.ext B0.out)
 rw [show (Calls Try.prog 93 #[.pointer (some ⟨M, 0, none⟩), x.V] w) = (Calls Try.prog 93 #[.pointer (some ⟨M, 0, none⟩), .agg cs] w) by rw [hcs]; rfl]
 have HX := Hi hx
 clear hcs hx h
 have HSS := Hi hs
 clear hs
 have q0 : (0 : Int) ≤ (s : Int) := by omega
 have q1 : (s : Int) < 16 := by omega
 have c2 := A0.out.cells.2.2.1
 go_enter Try.func93, Try.ntmps93
 go_wp2_with fail
 generalize hw1 : w.alloc (.cells cs 39) = w1 at *
 clear hw1
 obtain ⟨B, hB⟩ : ∃ B, B = w.heap.size := ⟨_, rfl⟩
 rw [← hB] at A0 ⊢
 clear hB c2
 refine (other_any B9 M m n p D r v x.tw w1 HS.out).mono ?_
 rintro e w2 ⟨b, rfl, hb, rfl⟩
 have HBO := Hi hb
 clear hb
 cases b
 ·have HEV : Hid (E1 = 1) := Hi (by rw [HE1.out]; unfold outE; rw [if_pos (fun h => by have := HBO.out.2 h; cases this)])
  go_wp2_with fail
  go_ret
  exact ⟨congrArg (fun z : Int => Ending.returned (.int .i64 z)) HEV.out.symm, B0.out⟩
 have HOK : Hid (0 ≤ x.tw ∧ x.tw < n ∧ x.tw ≠ m) := Hi (HBO.out.1 rfl)
 clear HBO
 go_wp2_with fail
 have hS0 : ∀ (listed : Array Bool) (f : Nat → Value), (∀ i, listed.getD i false = false) → S78 w1 112 4 (partC (p s) (some (D s))).toArray listed f w1.drew := fun _ _ h0 => S78.start h0 (Below.refl w1.heap.size w1).drew
 obtain ⟨T, hT⟩ : ∃ T : List (Value → Prop), T = [(fun zz => zz = .pointer (some ⟨M, 0, none⟩)), (fun zz => zz = .pointer (some ⟨B, 1, none⟩)), (fun zz => zz = .int .i64 (s : Int)), (fun zz => zz = .pointer (some ⟨M, 0, none⟩)), (fun zz => zz = .pointer (some ⟨M, 2, none⟩)), (fun zz => zz = .pointer (some ⟨M, 2 + s * 4, none⟩)), (fun zz => zz = .agg (partC (p s) (some (D s))).toArray), (fun _ => True), (fun _ => True)] := ⟨_, rfl⟩
 refine wp_region_gen (JS T ([(8, 7)] : List (Nat × Nat)) (fun lz fz wq => S78 w1 112 4 (partC (p s) (some (D s))).toArray lz fz wq)) (by kernel_rfl) (by kernel_rfl) (by kernel_rfl) (fitB_spec (by kernel_rfl)) (fun listed f h => JS.start listed f h (hS0 listed f h)) ?_ ?_
 ·intro i o ho
  have hi : i < 9 := (Array.getElem?_eq_some_iff.1 ho).1
  have hi' : i = 0 ∨ i = 1 ∨ i = 2 ∨ i = 3 ∨ i = 4 ∨ i = 5 ∨ i = 6 ∨ i = 7 ∨ i = 8 := by omega
  clear hi
  rcases hi' with rfl | rfl | rfl | rfl | rfl | rfl | rfl | rfl | rfl
  all_goals (simp only [List.getElem?_toArray, List.getElem?_cons_zero, List.getElem?_cons_succ, Option.some.injEq] at ho; subst ho; intro listed f a w3 hJ hsz hls hun hdep hout hlat; first | (rw [if_pos (by rfl)]; intro K hK) | skip)
  ·have q0 := hout 0 ob
   exact wp_mw _ rfl q0 (hK _ _ (hJ.nx hls hT rfl rfl (S78.plain hJ.st (Ex.refl _) 0 (by decide)) nh))
  ·have q3 := hout 3 ob
   rw [gd9] at q3
   clear hsz hdep hout hlat
   go_simp
   exact hK _ _ (hJ.na hls hT (S78.plain hJ.st (Ex.refl _) 1 (by decide)))
  ·have q13 := hJ.iq hT (hdep ⟨1, .data⟩ (by simp) rfl) rfl _ rfl _ rfl
   have c1 : w3.cell? ⟨B, 1, none⟩ = some (.int .i64 (s : Int)) := by rw [← HSS.out]; exact (A0.out.ext hJ.st.ex).cells.2.1
   clear hsz hdep hout hlat
   go_simp
   exact hK _ _ (hJ.nx hls hT rfl rfl (S78.plain hJ.st (Ex.refl _) 2 (by decide)) nh)
  ·have q12 := hJ.iq hT (hdep ⟨0, .data⟩ (by simp) rfl) rfl _ rfl _ rfl
   clear hsz hdep hout hlat
   go_simp
   exact hK _ _ (hJ.na hls hT (S78.plain hJ.st (Ex.refl _) 3 (by decide)))
  ·have q15 := hJ.iq hT (hdep ⟨3, .data⟩ (by simp) rfl) rfl _ rfl _ rfl
   clear hsz hdep hout hlat
   go_simp
   exact hK _ _ (hJ.na hls hT (S78.plain hJ.st (Ex.refl _) 4 (by decide)))
  ·have q16 := hJ.iq hT (hdep ⟨4, .data⟩ (by simp) rfl) rfl _ rfl _ rfl
   have q14 := hJ.iq hT (hdep ⟨2, .data⟩ (by simp) rfl) rfl _ rfl _ rfl
   clear hsz hdep hout hlat
   go_simp
   exact hK _ _ (hJ.na hls hT (S78.plain hJ.st (Ex.refl _) 5 (by decide)))
  ·have q17 := hJ.is hT (hdep ⟨5, .data⟩ (by simp) rfl) rfl _ rfl _ rfl
   exact ld_spa _ s hs16 rfl q17 (HS.out.blk.ext hJ.st.ex) (hK _ _ (hJ.nx hls hT rfl rfl (S78.plain hJ.st (Ex.refl _) 6 (by decide)) nh))
  ·have h8 : listed.getD 8 false = false := by
    cases hc : listed.getD 8 false with
    | false => rfl
    | true => exact absurd (hJ.ord (8, 7) (by simp) hc) (by rw [hun]; decide)
   have hst := hJ.st
   clear hsz hdep hout hlat
   go_simp
   exact hK _ _ (hJ.nx hls hT rfl (by trivial) (S78.s7 hst h8 (Ex.alloc _ _) (z := (partC ⟨0, 0, 0⟩ none).toArray) rfl rfl (Bk.new rfl 112 _)) nh)
  have dd5 := hdep ⟨7, .data⟩ (by simp) rfl
  have q5 := dd5.2 _ rfl _ rfl
  have q18 := hJ.is hT (hdep ⟨6, .data⟩ (by simp) rfl) rfl _ rfl _ rfl
  have hl7 := (hdep ⟨7, .data⟩ (by simp) rfl).1
  have hord : ∀ x ∈ ([(8, 7)] : List (Nat × Nat)), x.1 = 8 → listed.getD x.2 false = true := (by intro x hx he; simp only [List.mem_cons, List.not_mem_nil, or_false] at hx; rcases hx with rfl; all_goals first | (exact absurd he (by decide)) | assumption)
  have hst := hJ.st
  have hl7 := (hdep ⟨7, .data⟩ (by simp) rfl).1
  obtain ⟨g, z, hg, hge, hz, hb⟩ := hst.e7 hl7 hun
  rw [hg] at q5
  exact st_pb _ _ g (p s) (some (D s)) rfl q5 q18 hb hz (fun w9 hd ho => hK _ _ (hJ.nx hls hT rfl (by trivial) (S78.s8 hst (by rw [hls]; decide) hl7 hg hge ho hd) hord))
 intro listed f w3 hall hJ
 have hst := hJ.st
 simp only [putAll, Act.put, List.setIfInBounds_toArray, List.set_cons_zero, List.set_cons_succ, Nat.zero_add, Nat.reduceAdd]
 obtain ⟨g, hg7, hge7, hb7⟩ := hst.e8 (hall 8 (by simp))
 rw [hg7]
 have HPB : Hid (PB9 w3 g (p s) (some (D s))) := Hi hb7
 have XR : Hid (Ex w1 w3) := Hi hst.ex
 clear hst hS0 hg7 hge7 hb7
 clear hJ hall hT
 replace A0 := Hi (A0.out.ext XR.out)
 replace HS := Hi (HS.out.ext XR.out)
 replace B0 := Hi (Ex.trans B0.out XR.out)
 clear XR
 go_wp2_with (first | ((with_reducible refine so0 ?_ ?_); (focus rfl)) | ((with_reducible refine so4 [112, 1000 + 112, 32, 39] ?_ ?_); (focus rfl)))
 refine at9 (by go_simp) fun K0 hK => ld_pb _ g (p s) (some (D s)) rfl rfl HPB.out (hK _ _ ?_)
 clear hK
 go_wp2_with fail
 refine (held_any (p s) (some (D s)) w3).mono ?_
 rintro e w4 ⟨rfl, x4⟩
 replace A0 := Hi (A0.out.ext x4)
 replace HS := Hi (HS.out.ext x4)
 replace B0 := Hi (Ex.trans B0.out x4)
 replace HPB := Hi (HPB.out.ext x4)
 clear x4
 obtain ⟨hE, hhE⟩ : ∃ h, h = heldE (p s) := ⟨_, rfl⟩
 have HHE := Hi hhE
 rw [← hhE]
 clear hhE
 by_cases hh : hE = 0
 ·subst hh
  obtain ⟨pr, hpr⟩ : ∃ q, q = p s := ⟨_, rfl⟩
  rw [← hpr] at HPB HHE HE1
  have c1 := HPB.out.cells.2.1
  have c3 := A0.out.cells.2.2.2.1
  clear hpr
  obtain ⟨ep2, hep⟩ : ∃ e, e = IntKind.u64.wrap (pr.ep + 1) := ⟨_, rfl⟩
  have HEP := Hi hep
  by_cases h9 : x.ep = ep2
  ·have HEV : Hid (E1 = 0) := Hi (by rw [HE1.out]; unfold outE; rw [if_neg (fun h => h HOK.out), if_neg (fun h => h HHE.out.symm), if_pos (h9.trans HEP.out)])
   rw [hep] at h9
   go_wp2_with fail
   go_ret
   exact ⟨congrArg (fun z : Int => Ending.returned (.int .i64 z)) HEV.out.symm, B0.out⟩
  have HEV : Hid (E1 = 1) := Hi (by rw [HE1.out]; unfold outE; rw [if_neg (fun h => h HOK.out), if_neg (fun h => h HHE.out.symm), if_neg (fun h => h9 (h.trans HEP.out.symm))])
  rw [hep] at h9
  go_wp2_with fail
  go_ret
  exact ⟨congrArg (fun z : Int => Ending.returned (.int .i64 z)) HEV.out.symm, B0.out⟩
 have HEV : Hid (E1 = hE) := Hi (by rw [HE1.out]; unfold outE; rw [if_neg (fun h => h HOK.out), if_pos (by rw [← HHE.out]; exact hh), ← HHE.out])
 go_wp2_with fail
 go_ret
 exact ⟨congrArg (fun z : Int => Ending.returned (.int .i64 z)) HEV.out.symm, B0.out⟩
theorem check_out (B9 M : Nat) (m n : Int) (p : Nat → Pa) (D : Nat → Nat) (r : Nat → Value) (v : Nat → List Vt) (x : Rk) (hk : x.kind = 2) (E1 : Int) (hE1 : E1 = outE m n (p x.shard.toNat) x.tw x.ep) (w : World) (hx : x.In w) (h : SS w B9 M m n p D r v) : Calls Try.prog 54 #[.pointer (some ⟨M, 0, none⟩), x.V] w (SCPost x.outR E1 w) := by
 have HE1 := Hi hE1
 clear hE1
 obtain ⟨cs, hcs⟩ : ∃ cs, cs = x.C.toArray := ⟨_, rfl⟩
 have A0 : Hid (KB9 (w.alloc (.cells cs 39)) w.heap.size x) := Hi ⟨hx.v.ok, by rw [hcs]; exact Bk.new rfl _ _⟩
 have B0 : Hid (Ex w (w.alloc (.cells cs 39))) := Hi (Ex.alloc _ _)
 have HS := Hi (h.ext B0.out)
 rw [show (Calls Try.prog 54 #[.pointer (some ⟨M, 0, none⟩), x.V] w) = (Calls Try.prog 54 #[.pointer (some ⟨M, 0, none⟩), .agg cs] w) by rw [hcs]; rfl]
 have HX := Hi hx
 clear hcs hx h
 have HK := Hi hk
 go_enter Try.func54, Try.ntmps54
 go_wp2_with (first | ((with_reducible refine so0 ?_ ?_); (focus rfl)) | ((with_reducible refine so4 [112, 1000 + 112, 32, 39] ?_ ?_); (focus rfl)))
 (with_reducible refine ⟨?_⟩)
 change wpList _ _ _ _ _ (w.alloc (.cells cs 39))
 generalize hw1 : w.alloc (.cells cs 39) = w1 at *
 clear hw1
 obtain ⟨B, hB⟩ : ∃ B, B = w.heap.size := ⟨_, rfl⟩
 rw [← hB] at A0 ⊢
 have HB := Hi hB
 clear hB
 (with_reducible refine at_any ?_ ?_); (focus go_simp); refine fun K0 hK => ld_rk _ B x rfl rfl A0.out (hK _ _ ?_)
 clear hK
 go_wp2_with fail
 refine (rrec_out x HK.out w1 (HX.out.ext B0.out)).mono ?_
 rintro e w2 ⟨b9, rfl, hb, x2⟩
 replace A0 := Hi (A0.out.ext x2)
 replace HS := Hi (HS.out.ext x2)
 replace B0 := Hi (Ex.trans B0.out x2)
 have HBR := Hi hb
 clear hb x2
 have c0 : w2.cell? ⟨B, 0, none⟩ = some (.int .i64 2) := by rw [← HK.out]; exact A0.out.cells.1
 cases b9
 ·skip
  go_wp2_with fail
  go_ret
  exact ⟨1, rfl, fun h => absurd (HBR.out.2 h) (by simp), fun _ => rfl, B0.out⟩
 have HOR : Hid x.outR := Hi (HBR.out.1 (by simp))
 have hsh : x.shard = ((x.shard.toNat : Nat) : Int) := by have := HOR.out.1.1; omega
 have hs16 : x.shard.toNat < 16 := by have := HOR.out.1.2.1; omega
 go_wp2_with (first | ((with_reducible refine so0 ?_ ?_); (focus rfl)) | ((with_reducible refine so4 [112, 1000 + 112, 32, 39] ?_ ?_); (focus rfl)))
 refine at9 (by go_simp) fun K0 hK => ld_rk _ B x rfl rfl A0.out (hK _ _ ?_)
 clear hK
 go_wp2_with fail
 refine (cout_any B9 M m n p D r v x x.shard.toNat hsh hs16 E1 HE1.out w2 (HX.out.ext B0.out) HS.out).mono ?_
 rintro e w3 ⟨rfl, x3⟩
 replace B0 := Hi (Ex.trans B0.out x3)
 clear x3 hsh hs16
 go_wp2_with fail
 go_ret
 exact ⟨E1, rfl, fun _ => rfl, fun h => absurd HOR.out h, B0.out⟩
end Go.Proofs.Ytmjfnpmnhehnkaa
namespace Go.Proofs.Ytmjfnpmnhehnkaa
open Go.RowKit
def roleP (m n role tw : Int) (len : Nat) : Prop := (role = 0 ∧ tw = 0 ∧ len = 0) ∨ (role = 1 ∧ tw = 0) ∨ (role = 2 ∧ 0 ≤ tw ∧ tw < n ∧ tw ≠ m)
theorem rrole_any (B M : Nat) (m n : Int) (p : Nat → Pa) (D : Nat → Nat) (r : Nat → Value) (v : Nat → List Vt) (role tw : Int) (ad : Option Addr) (len cap : Nat) (w : World) (h : SS w B M m n p D r v) : Calls Try.prog 86 #[.pointer (some ⟨M, 0, none⟩), .int .i64 role, .int .i64 tw, .slice ad len cap] w (BPost (roleP m n role tw len) w) := by
  have HS := Hi h
  clear h
  by_cases h0 : role = 0
  · subst h0
    by_cases h1 : tw = 0
    · subst h1
      by_cases h2 : len = 0
      · have q1 : (len : Int) = 0 := by omega
        go_enter Try.func86, Try.ntmps86
        go_wp2_with fail
        go_ret
        exact ⟨true, rfl, ⟨fun _ => Or.inl ⟨rfl, rfl, h2⟩, fun _ => rfl⟩, Ex.refl _⟩
      have q1 : ¬ (len : Int) = 0 := by omega
      go_enter Try.func86, Try.ntmps86
      go_wp2_with fail
      go_ret
      exact ⟨_, rfl, ⟨fun h => (by exfalso; first | cases h | (simp at h; omega)), fun h => by exfalso; unfold roleP at h; omega⟩, Ex.refl _⟩
    go_enter Try.func86, Try.ntmps86
    go_wp2_with fail
    go_ret
    exact ⟨_, rfl, ⟨fun h => (by exfalso; first | cases h | (simp at h; omega)), fun h => by exfalso; unfold roleP at h; omega⟩, Ex.refl _⟩
  by_cases h3 : role = 1
  · subst h3
    by_cases h1 : tw = 0
    · subst h1
      go_enter Try.func86, Try.ntmps86
      go_wp2_with fail
      go_ret
      exact ⟨true, rfl, ⟨fun _ => Or.inr (Or.inl ⟨rfl, rfl⟩), fun _ => rfl⟩, Ex.refl _⟩
    go_enter Try.func86, Try.ntmps86
    go_wp2_with fail
    go_ret
    exact ⟨_, rfl, ⟨fun h => (by exfalso; first | cases h | (simp at h; omega)), fun h => by exfalso; unfold roleP at h; omega⟩, Ex.refl _⟩
  by_cases h4 : role = 2
  · subst h4
    go_enter Try.func86, Try.ntmps86
    go_wp2_with fail
    refine (other_any B M m n p D r v tw w HS.out).mono ?_
    rintro e w1 ⟨b, rfl, hb, rfl⟩
    have HB := Hi hb
    clear hb
    go_wp2_with fail
    go_ret
    exact ⟨b, rfl, ⟨fun h => Or.inr (Or.inr ⟨rfl, HB.out.1 h⟩), fun h => HB.out.2 (by unfold roleP at h; omega)⟩, Ex.refl _⟩
  go_enter Try.func86, Try.ntmps86
  go_wp2_with fail
  go_ret
  exact ⟨_, rfl, ⟨fun h => (by exfalso; first | cases h | (simp at h; omega)), fun h => by exfalso; unfold roleP at h; omega⟩, Ex.refl _⟩
theorem who_any (B M : Nat) (m n : Int) (p : Nat → Pa) (D : Nat → Nat) (r : Nat → Value) (v : Nat → List Vt) (w : World) (h : SS w B M m n p D r v) : Calls Try.prog 95 #[.pointer (some ⟨M, 0, none⟩)] w fun e w' => e = .returned (.tuple #[.int .i64 m, .int .i64 n]) ∧ Ex w w' := by
  have HS := Hi h
  clear h
  go_enter Try.func95, Try.ntmps95
  go_wp2_with fail
  have hS0 : ∀ (listed : Array Bool) (f : Nat → Value), (∀ i, listed.getD i false = false) → Ex w w.drew := fun _ _ _ => (Below.refl w.heap.size w).drew
  obtain ⟨T, hT⟩ : ∃ T : List (Value → Prop), T = [(fun zz => zz = .pointer (some ⟨M, 0, none⟩)), (fun zz => zz = .pointer (some ⟨M, 0, none⟩)), (fun zz => zz = .pointer (some ⟨M, 0, none⟩)), (fun zz => zz = .int .i64 m), (fun zz => zz = .pointer (some ⟨M, 0, none⟩)), (fun zz => zz = .pointer (some ⟨M, 0, none⟩)), (fun zz => zz = .pointer (some ⟨M, 1, none⟩)), (fun zz => zz = .int .i64 n), (fun zz => zz = .int .i64 m), (fun zz => zz = .int .i64 n)] := ⟨_, rfl⟩
  refine wp_region_gen (JS T ([] : List (Nat × Nat)) (fun _ _ wq => Ex w wq)) (by kernel_rfl) (by kernel_rfl) (by kernel_rfl) (fitB_spec (by kernel_rfl)) (fun listed f h => JS.start listed f h (hS0 listed f h)) ?_ ?_
  · intro i o ho
    have hi : i < 10 := (Array.getElem?_eq_some_iff.1 ho).1
    have hi' : i = 0 ∨ i = 1 ∨ i = 2 ∨ i = 3 ∨ i = 4 ∨ i = 5 ∨ i = 6 ∨ i = 7 ∨ i = 8 ∨ i = 9 := by omega
    clear hi
    rcases hi' with rfl | rfl | rfl | rfl | rfl | rfl | rfl | rfl | rfl | rfl
    all_goals (simp only [List.getElem?_toArray, List.getElem?_cons_zero, List.getElem?_cons_succ, Option.some.injEq] at ho; subst ho; intro listed f a w4 hJ hsz hls hun hdep hout hlat; first | (rw [if_pos (by rfl)]; intro K hK) | skip)
    · have q0 := hout 0 ob
      have hord := nil_ord 0 listed
      exact wp_mw _ rfl q0 (hK _ _ (hJ.nx hls hT rfl rfl hJ.st hord))
    · have q4 := hJ.is hT (hdep ⟨0, .data⟩ (by simp) rfl) rfl _ rfl _ rfl
      have hord := nil_ord 1 listed
      rw [gd9] at q4
      clear hsz hdep hout hlat
      go_simp
      exact hK _ _ (hJ.nx hls hT rfl (by first | rfl | exact congrArg (Value.int .i64) (by omega) | exact congrArg (Value.int .i64) (by rw [IntKind.wrap_i64]; omega) | exact congrArg Value.bool (decide_eq_false (by omega)) | exact congrArg Value.bool (decide_eq_true (by omega)) | exact congrArg (Value.int .u64) (by omega)) hJ.st hord)
    · have q5 := hJ.is hT (hdep ⟨1, .data⟩ (by simp) rfl) rfl _ rfl _ rfl
      have hord := nil_ord 2 listed
      rw [gd9] at q5
      clear hsz hdep hout hlat
      go_simp
      exact hK _ _ (hJ.nx hls hT rfl (by first | rfl | exact congrArg (Value.int .i64) (by omega) | exact congrArg (Value.int .i64) (by rw [IntKind.wrap_i64]; omega) | exact congrArg Value.bool (decide_eq_false (by omega)) | exact congrArg Value.bool (decide_eq_true (by omega)) | exact congrArg (Value.int .u64) (by omega)) hJ.st hord)
    · have q6 := hJ.is hT (hdep ⟨2, .data⟩ (by simp) rfl) rfl _ rfl _ rfl
      have hord := nil_ord 3 listed
      have c9 := (HS.out.ext hJ.st).heads.1
      rw [gd9] at q6
      clear hsz hdep hout hlat
      go_simp
      exact hK _ _ (hJ.nx hls hT rfl rfl hJ.st hord)
    · have q0 := hout 0 ob
      have hord := nil_ord 4 listed
      exact wp_mw _ rfl q0 (hK _ _ (hJ.nx hls hT rfl rfl hJ.st hord))
    · have q8 := hJ.is hT (hdep ⟨4, .data⟩ (by simp) rfl) rfl _ rfl _ rfl
      have hord := nil_ord 5 listed
      rw [gd9] at q8
      clear hsz hdep hout hlat
      go_simp
      exact hK _ _ (hJ.nx hls hT rfl (by first | rfl | exact congrArg (Value.int .i64) (by omega) | exact congrArg (Value.int .i64) (by rw [IntKind.wrap_i64]; omega) | exact congrArg Value.bool (decide_eq_false (by omega)) | exact congrArg Value.bool (decide_eq_true (by omega)) | exact congrArg (Value.int .u64) (by omega)) hJ.st hord)
    · have q9 := hJ.is hT (hdep ⟨5, .data⟩ (by simp) rfl) rfl _ rfl _ rfl
      have hord := nil_ord 6 listed
      rw [gd9] at q9
      clear hsz hdep hout hlat
      go_simp
      exact hK _ _ (hJ.nx hls hT rfl (by first | rfl | exact congrArg (Value.int .i64) (by omega) | exact congrArg (Value.int .i64) (by rw [IntKind.wrap_i64]; omega) | exact congrArg Value.bool (decide_eq_false (by omega)) | exact congrArg Value.bool (decide_eq_true (by omega)) | exact congrArg (Value.int .u64) (by omega)) hJ.st hord)
    · have q10 := hJ.is hT (hdep ⟨6, .data⟩ (by simp) rfl) rfl _ rfl _ rfl
      have hord := nil_ord 7 listed
      have c9 := (HS.out.ext hJ.st).heads.2
      rw [gd9] at q10
      clear hsz hdep hout hlat
      go_simp
      exact hK _ _ (hJ.nx hls hT rfl rfl hJ.st hord)
    · have q7 := hJ.is hT (hdep ⟨3, .data⟩ (by simp) rfl) rfl _ rfl _ rfl
      have hord := nil_ord 8 listed
      rw [gd9] at q7
      clear hsz hdep hout hlat
      go_simp
      exact hK _ _ (hJ.nx hls hT rfl (by first | rfl | exact congrArg (Value.int .i64) (by omega) | exact congrArg (Value.int .i64) (by rw [IntKind.wrap_i64]; omega) | exact congrArg Value.bool (decide_eq_false (by omega)) | exact congrArg Value.bool (decide_eq_true (by omega)) | exact congrArg (Value.int .u64) (by omega)) hJ.st hord)
    have q11 := hJ.is hT (hdep ⟨7, .data⟩ (by simp) rfl) rfl _ rfl _ rfl
    have hord := nil_ord 9 listed
    rw [gd9] at q11
    clear hsz hdep hout hlat
    go_simp
    exact hK _ _ (hJ.nx hls hT rfl (by first | rfl | exact congrArg (Value.int .i64) (by omega) | exact congrArg (Value.int .i64) (by rw [IntKind.wrap_i64]; omega) | exact congrArg Value.bool (decide_eq_false (by omega)) | exact congrArg Value.bool (decide_eq_true (by omega)) | exact congrArg (Value.int .u64) (by omega)) hJ.st hord)
  intro listed f w4 hall hJ
  have f8 := hJ.fa hT (hall 8 (by simp)) rfl
  have f9 := hJ.fa hT (hall 9 (by simp)) rfl
  have hst := hJ.st
  simp only [putAll, Act.put, List.setIfInBounds_toArray, List.set_cons_zero, List.set_cons_succ, Nat.zero_add, Nat.reduceAdd]
  have X4 : Hid (Ex w w4) := Hi hst
  clear hst hS0
  rw [f8, f9]
  clear f8 f9
  clear hJ hall hT
  generalize f 0 = y0
  generalize f 1 = y1
  generalize f 2 = y2
  generalize f 3 = y3
  generalize f 4 = y4
  generalize f 5 = y5
  generalize f 6 = y6
  generalize f 7 = y7
  go_wp2_with fail
  exact bodyPost_ret (results_tmp2 rfl _ _ _) rfl ⟨rfl, X4.out⟩
end Go.Proofs.Ytmjfnpmnhehnkaa
