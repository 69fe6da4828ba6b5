/- Se, Sf -/
import Derived.Test.YtmjfnpmnhehnkaaQaq
set_option maxRecDepth 100000
set_option maxHeartbeats 16000000
namespace Go.Proofs.Ytmjfnpmnhehnkaa
open Go.RowKit
def ckE (p : Pa) (b : Bool) (n : Nat) : Int := if p.role = 0 then 26 else if p.role = 2 then 27 else if b = false ∧ 4 ≤ n then 13 else 0
theorem ckE_held {p : Pa} {b : Bool} {n : Nat} (h : heldE p ≠ 0) : ckE p b n = heldE p := by
 unfold heldE at h ⊢; unfold ckE
 split
 ·rfl
 split
 ·rfl
 rename_i h1 h2; rw [if_neg h1, if_neg h2] at h; exact absurd rfl h
theorem ckE_free {p : Pa} {b : Bool} {n : Nat} (h : heldE p = 0) : ckE p b n = if b = false ∧ 4 ≤ n then 13 else 0 := by
 unfold heldE at h; unfold ckE
 split
 ·rename_i h1; rw [if_pos h1] at h; cases h
 rename_i h1
 rw [if_neg h1] at h
 split
 ·rename_i h2; rw [if_pos h2] at h; cases h
 rfl
theorem heldE_in (p : Pa) : 0 ≤ heldE p ∧ heldE p ≤ 27 := by
 unfold heldE
 split
 ·omega
 split <;> omega
theorem ckeep_any (B M : Nat) (m n : Int) (p : Nat → Pa) (D : Nat → Nat) (r : Nat → Value) (v : Nat → List Vt) (id : List UInt8) (hid : id.length = 4) (s : Nat) (hs : Sm.shV id = (s : Int)) (hs16 : s < 16) (c : Vc) (b : Bool) (hdet : GetDet (v s) (idn id) c b) (w : World) (h : SS w B M m n p D r v) : Calls Try.prog 92 #[.pointer (some ⟨M, 0, none⟩), digV id] w fun e w' => e = .returned (.int .i64 (ckE (p s) b (v s).length)) ∧ Ex w w' := by
 obtain ⟨ds, hds⟩ : ∃ ds, ds = (Lib.byteCells id).toArray := ⟨_, rfl⟩
 have I0 : Hid (Bk (w.alloc (.cells ds 32)) w.heap.size 32 (Lib.byteCells id).toArray) := Hi (by rw [hds]; exact Bk.new rfl _ _)
 have BW : Hid (Ex w (w.alloc (.cells ds 32))) := Hi (Ex.alloc w _)
 have HS := Hi (h.ext BW.out)
 have HID := Hi hid
 have HDT := Hi hdet
 have HSH := Hi hs
 rw [show (Calls Try.prog 92 #[.pointer (some ⟨M, 0, none⟩), digV id] w) = (Calls Try.prog 92 #[.pointer (some ⟨M, 0, none⟩), .agg ds] w) by rw [hds]; rfl]
 have q0 : (0 : Int) ≤ (s : Int) := by omega
 have q1 : (s : Int) < 16 := by omega
 obtain ⟨n9, hn9⟩ : ∃ n, n = (v s).length := ⟨_, rfl⟩
 rw [← hn9]
 have HN9 := Hi hn9
 have hn4 : n9 ≤ 4 := by rw [hn9]; exact (h.ts.tb s hs16).len
 clear hds hid h hdet hs hn9
 go_enter Try.func92, Try.ntmps92
 go_wp2_with fail
 generalize hw1 : (w.alloc (.cells ds 32)) = w1 at *
 clear hw1
 obtain ⟨gi, hg⟩ : ∃ g, g = w.heap.size := ⟨_, rfl⟩
 rw [← hg] at I0 ⊢
 clear hg
 have hS0 : ∀ (listed : Array Bool) (f : Nat → Value), (∀ i, listed.getD i false = false) → S78 w1 112 4 (partC (p s) (some (D s))).toArray listed f w1.drew := fun _ _ h0 => S78.start h0 (Below.refl w1.heap.size w1).drew
 obtain ⟨T, hT⟩ : ∃ T : List (Value → Prop), T = [(fun zz => zz = .pointer (some ⟨M, 0, none⟩)), (fun zz => zz = digV id), (fun zz => zz = .int .i64 (s : Int)), (fun zz => zz = .pointer (some ⟨M, 0, none⟩)), (fun zz => zz = .pointer (some ⟨M, 2, none⟩)), (fun zz => zz = .pointer (some ⟨M, 2 + s * 4, none⟩)), (fun zz => zz = .agg (partC (p s) (some (D s))).toArray), (fun _ => True), (fun _ => True)] := ⟨_, rfl⟩
 refine wp_region_gen (JS T ([(8, 7)] : List (Nat × Nat)) (fun lz fz wq => S78 w1 112 4 (partC (p s) (some (D s))).toArray lz fz wq)) (by kernel_rfl) (by kernel_rfl) (by kernel_rfl) (fitB_spec (by kernel_rfl)) (fun listed f h => JS.start listed f h (hS0 listed f h)) ?_ ?_
 ·intro i o ho
  have hi : i < 9 := (Array.getElem?_eq_some_iff.1 ho).1
  have hi' : i = 0 ∨ i = 1 ∨ i = 2 ∨ i = 3 ∨ i = 4 ∨ i = 5 ∨ i = 6 ∨ i = 7 ∨ i = 8 := by omega
  clear hi
  rcases hi' with rfl | rfl | rfl | rfl | rfl | rfl | rfl | rfl | rfl
  all_goals (simp only [List.getElem?_toArray, List.getElem?_cons_zero, List.getElem?_cons_succ, Option.some.injEq] at ho; subst ho; intro listed f a w3 hJ hsz hls hun hdep hout hlat; first | (rw [if_pos (by rfl)]; intro K hK) | skip)
  ·have q0 := hout 0 ob
   exact wp_mw _ rfl q0 (hK _ _ (hJ.nx hls hT rfl rfl (S78.plain hJ.st (Ex.refl _) 0 (by decide)) nh))
  ·have q3 := hout 3 ob
   exact ld_idb (.tmp 3) gi id HID.out rfl q3 (I0.out.ext hJ.st.ex) (hK _ _ (hJ.nx hls hT rfl rfl (S78.plain hJ.st (Ex.refl _) 1 (by decide)) nh))
  ·have q10 := hJ.iq hT (hdep ⟨1, .data⟩ (by simp) rfl) rfl _ rfl _ rfl
   have hst := hJ.st
   clear hsz hdep hout hlat
   go_simp
   refine (iof_any id HID.out s HSH.out w3).mono ?_
   rintro e wq ⟨rfl, xq⟩
   exact hK _ _ (hJ.nx hls hT rfl rfl (S78.plain hst xq 2 (by decide)) nh)
  ·have q9 := hJ.iq hT (hdep ⟨0, .data⟩ (by simp) rfl) rfl _ rfl _ rfl
   clear hsz hdep hout hlat
   go_simp
   exact hK _ _ (hJ.na hls hT (S78.plain hJ.st (Ex.refl _) 3 (by decide)))
  ·have q12 := hJ.iq hT (hdep ⟨3, .data⟩ (by simp) rfl) rfl _ rfl _ rfl
   clear hsz hdep hout hlat
   go_simp
   exact hK _ _ (hJ.na hls hT (S78.plain hJ.st (Ex.refl _) 4 (by decide)))
  ·have q13 := hJ.iq hT (hdep ⟨4, .data⟩ (by simp) rfl) rfl _ rfl _ rfl
   have q11 := hJ.iq hT (hdep ⟨2, .data⟩ (by simp) rfl) rfl _ rfl _ rfl
   clear hsz hdep hout hlat
   go_simp
   exact hK _ _ (hJ.na hls hT (S78.plain hJ.st (Ex.refl _) 5 (by decide)))
  ·have q14 := hJ.is hT (hdep ⟨5, .data⟩ (by simp) rfl) rfl _ rfl _ rfl
   exact ld_spa _ s hs16 rfl q14 (HS.out.blk.ext hJ.st.ex) (hK _ _ (hJ.nx hls hT rfl rfl (S78.plain hJ.st (Ex.refl _) 6 (by decide)) nh))
  ·have h8 : listed.getD 8 false = false := by
    cases hc : listed.getD 8 false with
    | false => rfl
    | true => exact absurd (hJ.ord (8, 7) (by simp) hc) (by rw [hun]; decide)
   have hst := hJ.st
   clear hsz hdep hout hlat
   go_simp
   exact hK _ _ (hJ.nx hls hT rfl (by trivial) (S78.s7 hst h8 (Ex.alloc _ _) (z := (partC ⟨0, 0, 0⟩ none).toArray) rfl rfl (Bk.new rfl 112 _)) nh)
  have dd5 := hdep ⟨7, .data⟩ (by simp) rfl
  have q5 := dd5.2 _ rfl _ rfl
  have q15 := hJ.is hT (hdep ⟨6, .data⟩ (by simp) rfl) rfl _ rfl _ rfl
  have hl7 := (hdep ⟨7, .data⟩ (by simp) rfl).1
  have hord : ∀ x ∈ ([(8, 7)] : List (Nat × Nat)), x.1 = 8 → listed.getD x.2 false = true := (by intro x hx he; simp only [List.mem_cons, List.not_mem_nil, or_false] at hx; rcases hx with rfl; all_goals first | (exact absurd he (by decide)) | assumption)
  have hst := hJ.st
  have hl7 := (hdep ⟨7, .data⟩ (by simp) rfl).1
  obtain ⟨g, z, hg, hge, hz, hb⟩ := hst.e7 hl7 hun
  rw [hg] at q5
  exact st_pb _ _ g (p s) (some (D s)) rfl q5 q15 hb hz (fun w9 hd ho => hK _ _ (hJ.nx hls hT rfl (by trivial) (S78.s8 hst (by rw [hls]; decide) hl7 hg hge ho hd) hord))
 intro listed f w3 hall hJ
 have hst := hJ.st
 simp only [putAll, Act.put, List.setIfInBounds_toArray, List.set_cons_zero, List.set_cons_succ, Nat.zero_add, Nat.reduceAdd]
 obtain ⟨g, hg7, hge7, hb7⟩ := hst.e8 (hall 8 (by simp))
 rw [hg7]
 have HPB : Hid (PB9 w3 g (p s) (some (D s))) := Hi hb7
 have XR : Hid (Ex w1 w3) := Hi hst.ex
 clear hst hS0 hg7 hge7 hb7
 clear hJ hall hT
 replace HS := Hi (HS.out.ext XR.out)
 replace I0 := Hi (I0.out.ext XR.out)
 replace BW := Hi (Ex.trans BW.out XR.out)
 clear XR
 go_wp2_with (first | ((with_reducible refine so0 ?_ ?_); (focus rfl)) | ((with_reducible refine so4 [112, 1000 + 112, 32] ?_ ?_); (focus rfl)))
 refine at9 (by go_simp) fun K0 hK => ld_pb _ g (p s) (some (D s)) rfl rfl HPB.out (hK _ _ ?_)
 clear hK
 go_wp2_with fail
 refine (held_any (p s) (some (D s)) w3).mono ?_
 rintro e w4 ⟨rfl, x4⟩
 replace HS := Hi (HS.out.ext x4)
 replace I0 := Hi (I0.out.ext x4)
 replace BW := Hi (Ex.trans BW.out x4)
 replace HPB := Hi (HPB.out.ext x4)
 clear x4
 have hin := heldE_in (p s)
 by_cases hh : heldE (p s) = 0
 rotate_left
 ·obtain ⟨E, hE⟩ : ∃ E, E = heldE (p s) := ⟨_, rfl⟩
  rw [← hE] at hh hin ⊢
  have HE := Hi hE
  clear hE
  go_wp2_with fail
  go_ret
  exact ⟨congrArg (fun z : Int => Ending.returned (.int .i64 z)) (HE.out.trans (ckE_held (by rw [← HE.out]; exact hh)).symm), BW.out⟩
 rw [hh]
 clear hin
 have HH := Hi hh
 clear hh
 have c3 : w4.cell? ⟨g, 3, none⟩ = some (.pointer (some ⟨D s, 0, none⟩)) := HPB.out.cells.2.2.2
 go_wp2_with (first | ((with_reducible refine so0 ?_ ?_); (focus rfl)) | ((with_reducible refine so4 [112, 1000 + 112, 32] ?_ ?_); (focus rfl)))
 refine at9 (by go_simp) fun K0 hK => ld_idb _ gi id HID.out rfl rfl I0.out (hK _ _ ?_)
 clear hK
 go_wp2_with (first | ((with_reducible refine so0 ?_ ?_); (focus rfl)) | ((with_reducible refine so4 [112, 1000 + 112, 32] ?_ ?_); (focus rfl)))
 refine (tget_det id HID.out HDT.out w4 (HS.out.ts.tb s hs16)).mono ?_
 rintro e w5 ⟨x, rfl, h1, h2, x5⟩
 have HX := Hi h2
 replace HS := Hi (HS.out.ext x5)
 replace BW := Hi (Ex.trans BW.out x5)
 replace HPB := Hi (HPB.out.ext x5)
 clear x5 h1 h2 c3
 go_wp2_with (first | ((with_reducible refine so0 ?_ ?_); (focus rfl)) | ((with_reducible refine so4 [112, 1000 + 112, 32] ?_ ?_); (focus rfl)))
 refine at9 (by go_simp) fun K0 hK => st_v _ _ w5.heap.size x rfl rfl rfl HX.out.ok (Bk.new rfl _ _) (by rfl) (fun w6 hd ho => hK _ _ ?_)
 clear hK
 have x6 : Ex w5 w6 := ho.below w5.heap.size (Nat.le_refl _) w5 (Ex.alloc w5 _)
 replace HS := Hi (HS.out.ext x6)
 replace BW := Hi (Ex.trans BW.out x6)
 replace HPB := Hi (HPB.out.ext x6)
 clear hd ho x6 HX
 generalize w5.heap.size = g7
 have c3 : w6.cell? ⟨g, 3, none⟩ = some (.pointer (some ⟨D s, 0, none⟩)) := HPB.out.cells.2.2.2
 cases b
 ·skip
  go_wp2_with fail
  have CL := Hi (tlen_any (D s) (r s) (v s) w6 (HS.out.ts.tb s hs16))
  rw [← HN9.out] at CL
  refine CL.out.mono ?_
  rintro e w7 ⟨rfl, rfl⟩
  clear CL
  by_cases h4 : 4 ≤ n9
  ·obtain rfl : n9 = 4 := by omega
   go_wp2_with fail
   go_ret
   exact ⟨congrArg (fun z : Int => Ending.returned (.int .i64 z)) (show (13 : Int) = ckE (p s) _ _ from by rw [ckE_free HH.out, if_pos ⟨rfl, h4⟩]), BW.out⟩
  have h5 : ¬ (4 : Int) ≤ (n9 : Int) := by omega
  go_wp2_with fail
  go_ret
  exact ⟨congrArg (fun z : Int => Ending.returned (.int .i64 z)) (show (0 : Int) = ckE (p s) _ n9 from by rw [ckE_free HH.out, if_neg (fun h => h4 h.2)]), BW.out⟩
 skip
 go_wp2_with fail
 go_ret
 exact ⟨congrArg (fun z : Int => Ending.returned (.int .i64 z)) (show (0 : Int) = ckE (p s) _ n9 from by rw [ckE_free HH.out, if_neg (fun h => by cases h.1)]), BW.out⟩
def SCPost (P : Prop) (E1 : Int) (w : World) (e : Ending) (w' : World) : Prop := ∃ E : Int, e = .returned (.int .i64 E) ∧ (P → E = E1) ∧ (¬ P → E = 1) ∧ Ex w w'
theorem check_keep (B9 M : Nat) (m n : Int) (p : Nat → Pa) (D : Nat → Nat) (r : Nat → Value) (v : Nat → List Vt) (x : Rk) (hk : x.kind = 1) (s : Nat) (hs : Sm.shV x.v.id = (s : Int)) (hs16 : s < 16) (c : Vc) (b : Bool) (hdet : GetDet (v s) (idn x.v.id) c b) (w : World) (hx : x.In w) (h : SS w B9 M m n p D r v) : Calls Try.prog 54 #[.pointer (some ⟨M, 0, none⟩), x.V] w (SCPost x.keepR (ckE (p s) b (v s).length) w) := by
 obtain ⟨cs, hcs⟩ : ∃ cs, cs = x.C.toArray := ⟨_, rfl⟩
 have A0 : Hid (KB9 (w.alloc (.cells cs 39)) w.heap.size x) := Hi ⟨hx.v.ok, by rw [hcs]; exact Bk.new rfl _ _⟩
 have B0 : Hid (Ex w (w.alloc (.cells cs 39))) := Hi (Ex.alloc _ _)
 have HS := Hi (h.ext B0.out)
 rw [show (Calls Try.prog 54 #[.pointer (some ⟨M, 0, none⟩), x.V] w) = (Calls Try.prog 54 #[.pointer (some ⟨M, 0, none⟩), .agg cs] w) by rw [hcs]; rfl]
 have HX := Hi hx
 clear hcs hx h
 have HK := Hi hk
 go_enter Try.func54, Try.ntmps54
 go_wp2_with (first | ((with_reducible refine so0 ?_ ?_); (focus rfl)) | ((with_reducible refine so4 [112, 1000 + 112, 32, 39] ?_ ?_); (focus rfl)))
 (with_reducible refine ⟨?_⟩)
 change wpList _ _ _ _ _ (w.alloc (.cells cs 39))
 generalize hw1 : w.alloc (.cells cs 39) = w1 at *
 clear hw1
 obtain ⟨B, hB⟩ : ∃ B, B = w.heap.size := ⟨_, rfl⟩
 rw [← hB] at A0 ⊢
 have HB := Hi hB
 clear hB
 (with_reducible refine at_any ?_ ?_); (focus go_simp); refine fun K0 hK => ld_rk _ B x rfl rfl A0.out (hK _ _ ?_)
 clear hK
 go_wp2_with fail
 refine (rrec_keep x HK.out w1 (HX.out.ext B0.out)).mono ?_
 rintro e w2 ⟨b9, rfl, hb, x2⟩
 replace A0 := Hi (A0.out.ext x2)
 replace HS := Hi (HS.out.ext x2)
 replace B0 := Hi (Ex.trans B0.out x2)
 have HBR := Hi hb
 clear hb x2
 have c0 : w2.cell? ⟨B, 0, none⟩ = some (.int .i64 1) := by rw [← HK.out]; exact A0.out.cells.1
 cases b9
 ·skip
  go_wp2_with fail
  go_ret
  exact ⟨1, rfl, fun h => absurd (HBR.out.2 h) (by simp), fun _ => rfl, B0.out⟩
 skip
 go_wp2_with (first | ((with_reducible refine so0 ?_ ?_); (focus rfl)) | ((with_reducible refine so4 [112, 1000 + 112, 32, 39] ?_ ?_); (focus rfl)))
 refine at9 (by go_simp) fun K0 hK => ld_rkid _ B x rfl rfl A0.out (hK _ _ ?_)
 clear hK
 go_wp2_with fail
 refine (ckeep_any B9 M m n p D r v x.v.id HX.out.v.ok.idN s hs hs16 c b hdet w2 HS.out).mono ?_
 rintro e w3 ⟨rfl, x3⟩
 replace B0 := Hi (Ex.trans B0.out x3)
 obtain ⟨E, hE⟩ : ∃ E, E = ckE (p s) b (v s).length := ⟨_, rfl⟩
 have HE := Hi hE
 rw [← hE]
 clear hE x3 hdet
 go_wp2_with fail
 go_ret
 exact ⟨E, rfl, fun _ => HE.out, fun h => absurd (HBR.out.1 (by simp)) h, B0.out⟩
theorem check_done (B9 M : Nat) (m n : Int) (p : Nat → Pa) (D : Nat → Nat) (r : Nat → Value) (v : Nat → List Vt) (x : Rk) (hk : x.kind = 4) (E1 : Int) (hE1 : E1 = if (p x.shard.toNat).role = 2 ∧ (p x.shard.toNat).ep = x.ep then 0 else 26) (w : World) (hx : x.In w) (h : SS w B9 M m n p D r v) : Calls Try.prog 54 #[.pointer (some ⟨M, 0, none⟩), x.V] w (SCPost x.doneR E1 w) := by
 have HE1 := Hi hE1
 clear hE1
 obtain ⟨cs, hcs⟩ : ∃ cs, cs = x.C.toArray := ⟨_, rfl⟩
 have A0 : Hid (KB9 (w.alloc (.cells cs 39)) w.heap.size x) := Hi ⟨hx.v.ok, by rw [hcs]; exact Bk.new rfl _ _⟩
 have B0 : Hid (Ex w (w.alloc (.cells cs 39))) := Hi (Ex.alloc _ _)
 have HS := Hi (h.ext B0.out)
 rw [show (Calls Try.prog 54 #[.pointer (some ⟨M, 0, none⟩), x.V] w) = (Calls Try.prog 54 #[.pointer (some ⟨M, 0, none⟩), .agg cs] w) by rw [hcs]; rfl]
 have HX := Hi hx
 clear hcs hx h
 have HK := Hi hk
 go_enter Try.func54, Try.ntmps54
 go_wp2_with (first | ((with_reducible refine so0 ?_ ?_); (focus rfl)) | ((with_reducible refine so4 [112, 1000 + 112, 32, 39] ?_ ?_); (focus rfl)))
 (with_reducible refine ⟨?_⟩)
 change wpList _ _ _ _ _ (w.alloc (.cells cs 39))
 generalize hw1 : w.alloc (.cells cs 39) = w1 at *
 clear hw1
 obtain ⟨B, hB⟩ : ∃ B, B = w.heap.size := ⟨_, rfl⟩
 rw [← hB] at A0 ⊢
 have HB := Hi hB
 clear hB
 (with_reducible refine at_any ?_ ?_); (focus go_simp); refine fun K0 hK => ld_rk _ B x rfl rfl A0.out (hK _ _ ?_)
 clear hK
 go_wp2_with fail
 refine (rrec_done x HK.out w1 (HX.out.ext B0.out)).mono ?_
 rintro e w2 ⟨b9, rfl, hb, x2⟩
 replace A0 := Hi (A0.out.ext x2)
 replace HS := Hi (HS.out.ext x2)
 replace B0 := Hi (Ex.trans B0.out x2)
 have HBR := Hi hb
 clear hb x2
 have c0 : w2.cell? ⟨B, 0, none⟩ = some (.int .i64 4) := by rw [← HK.out]; exact A0.out.cells.1
 cases b9
 ·skip
  go_wp2_with fail
  go_ret
  exact ⟨1, rfl, fun h => absurd (HBR.out.2 h) (by simp), fun _ => rfl, B0.out⟩
 obtain ⟨⟨g0, g1, g2, g3, g4⟩, g5, g6⟩ := HBR.out.1 (by simp)
 obtain ⟨s, hs⟩ : ∃ s : Nat, x.shard = (s : Int) := ⟨x.shard.toNat, by omega⟩
 have hs16 : s < 16 := by omega
 have q0 : (0 : Int) ≤ (s : Int) := by omega
 have q1 : (s : Int) < 16 := by omega
 have HSS := Hi hs
 have HNG : Hid x.doneR := Hi (HBR.out.1 (by simp))
 clear g0 g1 g2 g3 g4 g5 g6 HBR hs
 go_wp2_with fail
 clear c0
 have hS0 : ∀ (listed : Array Bool) (f : Nat → Value), (∀ i, listed.getD i false = false) → S78 w2 112 4 (partC (p s) (some (D s))).toArray listed f w2.drew := fun _ _ h0 => S78.start h0 (Below.refl w2.heap.size w2).drew
 obtain ⟨T, hT⟩ : ∃ T : List (Value → Prop), T = [(fun zz => zz = .pointer (some ⟨M, 0, none⟩)), (fun zz => zz = .pointer (some ⟨B, 1, none⟩)), (fun zz => zz = .int .i64 (s : Int)), (fun zz => zz = .pointer (some ⟨M, 0, none⟩)), (fun zz => zz = .pointer (some ⟨M, 2, none⟩)), (fun zz => zz = .pointer (some ⟨M, 2 + s * 4, none⟩)), (fun zz => zz = .agg (partC (p s) (some (D s))).toArray), (fun _ => True), (fun _ => True)] := ⟨_, rfl⟩
 refine wp_region_gen (JS T ([(8, 7)] : List (Nat × Nat)) (fun lz fz wq => S78 w2 112 4 (partC (p s) (some (D s))).toArray lz fz wq)) (by kernel_rfl) (by kernel_rfl) (by kernel_rfl) (fitB_spec (by kernel_rfl)) (fun listed f h => JS.start listed f h (hS0 listed f h)) ?_ ?_
 ·intro i o ho
  have hi : i < 9 := (Array.getElem?_eq_some_iff.1 ho).1
  have hi' : i = 0 ∨ i = 1 ∨ i = 2 ∨ i = 3 ∨ i = 4 ∨ i = 5 ∨ i = 6 ∨ i = 7 ∨ i = 8 := by omega
  clear hi
  rcases hi' with rfl | rfl | rfl | rfl | rfl | rfl | rfl | rfl | rfl
  all_goals (simp only [List.getElem?_toArray, List.getElem?_cons_zero, List.getElem?_cons_succ, Option.some.injEq] at ho; subst ho; intro listed f a w3 hJ hsz hls hun hdep hout hlat; first | (rw [if_pos (by rfl)]; intro K hK) | skip)
  ·have q0 := hout 0 ob
   exact wp_mw _ rfl q0 (hK _ _ (hJ.nx hls hT rfl rfl (S78.plain hJ.st (Ex.refl _) 0 (by decide)) nh))
  ·have q3 := hout 3 ob
   rw [gd9] at q3
   clear hsz hdep hout hlat
   go_simp
   exact hK _ _ (hJ.na hls hT (S78.plain hJ.st (Ex.refl _) 1 (by decide)))
  ·have q29 := hJ.iq hT (hdep ⟨1, .data⟩ (by simp) rfl) rfl _ rfl _ rfl
   have c1 : w3.cell? ⟨B, 1, none⟩ = some (.int .i64 (s : Int)) := by rw [← HSS.out]; exact (A0.out.ext hJ.st.ex).cells.2.1
   clear hsz hdep hout hlat
   go_simp
   exact hK _ _ (hJ.nx hls hT rfl rfl (S78.plain hJ.st (Ex.refl _) 2 (by decide)) nh)
  ·have q28 := hJ.iq hT (hdep ⟨0, .data⟩ (by simp) rfl) rfl _ rfl _ rfl
   clear hsz hdep hout hlat
   go_simp
   exact hK _ _ (hJ.na hls hT (S78.plain hJ.st (Ex.refl _) 3 (by decide)))
  ·have q31 := hJ.iq hT (hdep ⟨3, .data⟩ (by simp) rfl) rfl _ rfl _ rfl
   clear hsz hdep hout hlat
   go_simp
   exact hK _ _ (hJ.na hls hT (S78.plain hJ.st (Ex.refl _) 4 (by decide)))
  ·have q32 := hJ.iq hT (hdep ⟨4, .data⟩ (by simp) rfl) rfl _ rfl _ rfl
   have q30 := hJ.iq hT (hdep ⟨2, .data⟩ (by simp) rfl) rfl _ rfl _ rfl
   clear hsz hdep hout hlat
   go_simp
   exact hK _ _ (hJ.na hls hT (S78.plain hJ.st (Ex.refl _) 5 (by decide)))
  ·have q33 := hJ.is hT (hdep ⟨5, .data⟩ (by simp) rfl) rfl _ rfl _ rfl
   exact ld_spa _ s hs16 rfl q33 (HS.out.blk.ext hJ.st.ex) (hK _ _ (hJ.nx hls hT rfl rfl (S78.plain hJ.st (Ex.refl _) 6 (by decide)) nh))
  ·have h8 : listed.getD 8 false = false := by
    cases hc : listed.getD 8 false with
    | false => rfl
    | true => exact absurd (hJ.ord (8, 7) (by simp) hc) (by rw [hun]; decide)
   have hst := hJ.st
   clear hsz hdep hout hlat
   go_simp
   exact hK _ _ (hJ.nx hls hT rfl (by trivial) (S78.s7 hst h8 (Ex.alloc _ _) (z := (partC ⟨0, 0, 0⟩ none).toArray) rfl rfl (Bk.new rfl 112 _)) nh)
  have dd5 := hdep ⟨7, .data⟩ (by simp) rfl
  have q5 := dd5.2 _ rfl _ rfl
  have q34 := hJ.is hT (hdep ⟨6, .data⟩ (by simp) rfl) rfl _ rfl _ rfl
  have hl7 := (hdep ⟨7, .data⟩ (by simp) rfl).1
  have hord : ∀ x ∈ ([(8, 7)] : List (Nat × Nat)), x.1 = 8 → listed.getD x.2 false = true := (by intro x hx he; simp only [List.mem_cons, List.not_mem_nil, or_false] at hx; rcases hx with rfl; all_goals first | (exact absurd he (by decide)) | assumption)
  have hst := hJ.st
  have hl7 := (hdep ⟨7, .data⟩ (by simp) rfl).1
  obtain ⟨g, z, hg, hge, hz, hb⟩ := hst.e7 hl7 hun
  rw [hg] at q5
  exact st_pb _ _ g (p s) (some (D s)) rfl q5 q34 hb hz (fun w9 hd ho => hK _ _ (hJ.nx hls hT rfl (by trivial) (S78.s8 hst (by rw [hls]; decide) hl7 hg hge ho hd) hord))
 intro listed f w3 hall hJ
 have hst := hJ.st
 simp only [putAll, Act.put, List.setIfInBounds_toArray, List.set_cons_zero, List.set_cons_succ, Nat.zero_add, Nat.reduceAdd]
 obtain ⟨g, hg7, hge7, hb7⟩ := hst.e8 (hall 8 (by simp))
 rw [hg7]
 have HPB : Hid (PB9 w3 g (p s) (some (D s))) := Hi hb7
 have XR : Hid (Ex w2 w3) := Hi hst.ex
 clear hst hS0 hg7 hge7 hb7
 clear hJ hall hT
 replace A0 := Hi (A0.out.ext XR.out)
 replace HS := Hi (HS.out.ext XR.out)
 replace B0 := Hi (Ex.trans B0.out XR.out)
 clear XR
 obtain ⟨pr, hpr⟩ : ∃ q, q = p s := ⟨_, rfl⟩
 rw [← hpr] at HPB
 have HPR := Hi hpr
 clear hpr
 obtain ⟨d0, d1, _, _⟩ := HPB.out.cells
 have c3 : w3.cell? ⟨B, 3, none⟩ = some (.int .u64 x.ep) := A0.out.cells.2.2.2.1
 by_cases h2 : pr.role = 2
 ·by_cases h3 : pr.ep = x.ep
  ·skip
   go_wp2_with fail
   go_ret
   exact ⟨0, rfl, fun _ => by rw [HE1.out, HSS.out, Int.toNat_natCast, if_pos (by rw [← HPR.out]; exact ⟨h2, h3⟩)], fun h => absurd HNG.out h, B0.out⟩
  skip
  go_wp2_with fail
  go_ret
  exact ⟨26, rfl, fun _ => by rw [HE1.out, HSS.out, Int.toNat_natCast, if_neg (by rw [← HPR.out]; exact fun h => h3 h.2)], fun h => absurd HNG.out h, B0.out⟩
 skip
 go_wp2_with fail
 go_ret
 exact ⟨26, rfl, fun _ => by rw [HE1.out, HSS.out, Int.toNat_natCast, if_neg (by rw [← HPR.out]; exact fun h => h2 h.1)], fun h => absurd HNG.out h, B0.out⟩
end Go.Proofs.Ytmjfnpmnhehnkaa
namespace Go.Proofs.Ytmjfnpmnhehnkaa
open Go.RowKit
theorem put_ss {w w' : World} {B M s : Nat} {m n : Int} {p : Nat → Pa} {D : Nat → Nat} {r : Nat → Value} {v : Nat → List Vt} {x : Vt} {e : Ending} (h : SS w B M m n p D r v) (hs : s < 16) (hp : PutPost (D s) (r s) (v s) x w e w') : ∃ E r' ls, e = .returned (.int .i64 E) ∧ PutRel (v s) x ls ∧ (E = 0 ∨ (E = 1 ∧ x.ct.right = false) ∨ (E = 13 ∧ NotIn (v s) (idn x.id) ∧ (v s).length = 4)) ∧ SS w' B M m n p D (updF r s r') (updF v s ls) ∧ Tc (D s) (r s).ownBlock w w' ∧ Lies w (r s) r' := by
 have hM : M ≠ D s := fun e9 => by
  have h1 := h.blk; have h2 := (h.ts.tb s hs).blk
  rw [e9] at h1; unfold Bk at h1 h2; rw [h1] at h2; exact absurd (Obj.cells.inj (Option.some.inj h2)).2.1 (by decide)
 have hM2 : some M ≠ (r s).ownBlock := fun e9 => by
  rcases (h.ts.tb s hs).row.blk with h3 | ⟨gb, h3, _, _, cs, hb⟩
  ·rw [h3] at e9; cases e9
  ·rw [h3] at e9; cases e9
   have h1 := h.blk
   unfold Bk at h1 hb; rw [h1] at hb; exact absurd (Obj.cells.inj (Option.some.inj hb)).2.1 (by decide)
 rcases hp with ⟨h1, rfl, h2⟩ | ⟨h1, q, h2, ⟨z, a1, a2, rfl, a3, a4, a5⟩ | ⟨a1, a2, rfl, a3⟩ | ⟨z, rv', a1, a2, rfl, a3, a4, a5, a6⟩⟩
 ·exact ⟨1, r s, v s, rfl, Or.inl ⟨h1, rfl⟩, Or.inr (Or.inl ⟨rfl, h1⟩), by rw [updF_id, updF_id]; exact h.ext h2, h2.tc _ _, Or.inl rfl⟩
 ·exact ⟨0, r s, _, rfl, Or.inr ⟨h1, q, z, h2, a3, Or.inl ⟨a1, a2, rfl⟩⟩, Or.inl rfl, ⟨a5.bk h.blk hM hM2, h.ts.turn hs a4 a5 (Or.inl rfl), h.ok, h.mok⟩, a5, Or.inl rfl⟩
 ·exact ⟨13, r s, v s, rfl, Or.inr ⟨h1, q, x, h2, rfl, Or.inr (Or.inl ⟨a1, a2, rfl⟩)⟩, Or.inr (Or.inr ⟨rfl, a1, a2⟩), by rw [updF_id, updF_id]; exact h.ext a3, a3.tc _ _, Or.inl rfl⟩
 exact ⟨0, rv', _, rfl, Or.inr ⟨h1, q, z, h2, a3, Or.inr (Or.inr ⟨a1, a2, rfl⟩)⟩, Or.inl rfl, ⟨a5.bk h.blk hM hM2, h.ts.turn hs a4 a5 a6, h.ok, h.mok⟩, a5, a6⟩
structure S12 (w0 : World) (Fin : Value → World → Prop) (l : Array Bool) (f : Nat → Value) (w : World) : Prop where
 ex : l.getD 12 false = false → Ex w0 w
 fin : l.getD 12 false = true → ∃ wp, Fin (f 12) wp ∧ Ex wp w
section
variable {w0 w w' : World} {Fin : Value → World → Prop} {l : Array Bool} {f : Nat → Value} {x : Value}
theorem S12.start (h0 : ∀ i, l.getD i false = false) (hx : Ex w0 w) : S12 w0 Fin l f w := ⟨fun _ => hx, fun a => by rw [h0] at a; cases a⟩
theorem S12.plain (h : S12 w0 Fin l f w) (kx : Ex w w') (i : Nat) (hi : i ≠ 12) : S12 w0 Fin (l.setIfInBounds i true) (upd f i x) w' := by
 refine ⟨fun a => ?_, fun a => ?_⟩
 ·rw [gset hi false] at a; exact Ex.trans (h.ex a) kx
 rw [gset hi false] at a; rw [upd_ne _ _ (Ne.symm hi)]
 obtain ⟨wp, h1, h2⟩ := h.fin a
 exact ⟨wp, h1, Ex.trans h2 kx⟩
theorem S12.s12 (hl : 12 < l.size) (hf : Fin x w') : S12 w0 Fin (l.setIfInBounds 12 true) (upd f 12 x) w' := by
 refine ⟨fun a => ?_, fun _ => ?_⟩
 ·rw [set_new hl] at a; cases a
 rw [upd_same]; exact ⟨w', hf, Ex.refl _⟩
end
def AKPost (B9 M : Nat) (m n : Int) (p : Nat → Pa) (D : Nat → Nat) (r : Nat → Value) (v : Nat → List Vt) (x : Rk) (s : Nat) (E1 : Int) (w : World) (e : Ending) (w' : World) : Prop :=
 (¬ (x.keepR ∧ E1 = 0) ∧ (∃ E : Int, e = .returned (.int .i64 E) ∧ E ≠ 0 ∧ (x.keepR → E = E1) ∧ (¬ x.keepR → E = 1)) ∧ Ex w w') ∨
 (x.keepR ∧ E1 = 0 ∧ e = .returned (.int .i64 0) ∧ ∃ r' ls, PutRel (v s) x.v ls ∧ SS w' B9 M m n p D (updF r s r') (updF v s ls) ∧ Tc (D s) (r s).ownBlock w w' ∧ Lies w (r s) r')
theorem getdet_in {vs : List Vt} {X : Nat} {c : Vc} {b : Bool} (h : GetDet vs X c b) : b = false ↔ NotIn vs X := by
 rw [h.1]
 constructor
 ·exact fun h1 => of_decide_eq_false h1
 exact fun h1 => decide_eq_false h1
structure S13 (w0 : World) (Fin : Value → World → Prop) (l : Array Bool) (f : Nat → Value) (w : World) : Prop where
 base : S12 w0 Fin l f w
 val : l.getD 13 false = true → f 13 = f 12
section
variable {w0 w w' : World} {Fin : Value → World → Prop} {l : Array Bool} {f : Nat → Value} {x : Value}
theorem S13.start (h0 : ∀ i, l.getD i false = false) (hx : Ex w0 w) : S13 w0 Fin l f w := ⟨S12.start h0 hx, fun a => by rw [h0] at a; cases a⟩
theorem S13.plain (h : S13 w0 Fin l f w) (kx : Ex w w') (i : Nat) (hi : i ≠ 12 ∧ i ≠ 13) : S13 w0 Fin (l.setIfInBounds i true) (upd f i x) w' :=
 ⟨h.base.plain kx i hi.1, fun a => by rw [gset hi.2 false] at a; rw [upd_ne _ _ (Ne.symm hi.1), upd_ne _ _ (Ne.symm hi.2)]; exact h.val a⟩
theorem S13.s12 (h : S13 w0 Fin l f w) (hl : 12 < l.size) (h13 : l.getD 13 false = false) (hf : Fin x w') : S13 w0 Fin (l.setIfInBounds 12 true) (upd f 12 x) w' :=
 ⟨S12.s12 hl hf, fun a => by rw [gset (show (12 : Nat) ≠ 13 by decide) false, h13] at a; cases a⟩
theorem S13.s13 (h : S13 w0 Fin l f w) : S13 w0 Fin (l.setIfInBounds 13 true) (upd f 13 (f 12)) w :=
 ⟨h.base.plain (Ex.refl _) 13 (by decide), fun _ => by rw [upd_same, upd_ne _ _ (show (12 : Nat) ≠ 13 by decide)]⟩
end
theorem apply_keep (B9 M : Nat) (m n : Int) (p : Nat → Pa) (D : Nat → Nat) (r : Nat → Value) (v : Nat → List Vt) (x : Rk) (hk : x.kind = 1) (s : Nat) (hs : Sm.shV x.v.id = (s : Int)) (hs16 : s < 16) (c : Vc) (b : Bool) (hdet : GetDet (v s) (idn x.v.id) c b) (w : World) (hx : x.In w) (h : SS w B9 M m n p D r v) : Calls Try.prog 17 #[.pointer (some ⟨M, 0, none⟩), x.V] w (AKPost B9 M m n p D r v x s (ckE (p s) b (v s).length) w) := by
 obtain ⟨cs, hcs⟩ : ∃ cs, cs = x.C.toArray := ⟨_, rfl⟩
 have A0 : Hid (KB9 (w.alloc (.cells cs 39)) w.heap.size x) := Hi ⟨hx.v.ok, by rw [hcs]; exact Bk.new rfl _ _⟩
 have B0 : Hid (Ex w (w.alloc (.cells cs 39))) := Hi (Ex.alloc _ _)
 have HS := Hi (h.ext B0.out)
 rw [show (Calls Try.prog 17 #[.pointer (some ⟨M, 0, none⟩), x.V] w) = (Calls Try.prog 17 #[.pointer (some ⟨M, 0, none⟩), .agg cs] w) by rw [hcs]; rfl]
 have HX := Hi hx
 clear hcs hx h
 have HK := Hi hk
 go_enter Try.func17, Try.ntmps17
 go_wp2_with (first | ((with_reducible refine so0 ?_ ?_); (focus rfl)) | ((with_reducible refine so4 [112, 1000 + 112, 32, 39] ?_ ?_); (focus rfl)))
 (with_reducible refine ⟨?_⟩)
 change wpList _ _ _ _ _ (w.alloc (.cells cs 39))
 generalize hw1 : w.alloc (.cells cs 39) = w1 at *
 clear hw1
 obtain ⟨B, hB⟩ : ∃ B, B = w.heap.size := ⟨_, rfl⟩
 rw [← hB] at A0 ⊢
 have HB := Hi hB
 clear hB
 (with_reducible refine at_any ?_ ?_); (focus go_simp); refine fun K0 hK => ld_rk _ B x rfl rfl A0.out (hK _ _ ?_)
 clear hK
 go_wp2_with fail
 refine (check_keep B9 M m n p D r v x HK.out s hs hs16 c b hdet w1 (HX.out.ext B0.out) HS.out).mono ?_
 rintro e w2 ⟨E, rfl, he1, he2, x2⟩
 replace A0 := Hi (A0.out.ext x2)
 replace HS := Hi (HS.out.ext x2)
 replace B0 := Hi (Ex.trans B0.out x2)
 have HE := Hi (And.intro he1 he2)
 clear he1 he2 x2
 have HDT := Hi hdet
 have HSH := Hi hs
 have q0 : (0 : Int) ≤ (s : Int) := by omega
 have q1 : (s : Int) < 16 := by omega
 obtain ⟨E1, hE1⟩ : ∃ E1, E1 = ckE (p s) b (v s).length := ⟨_, rfl⟩
 rw [← hE1] at HE
 have HE1 := Hi hE1
 clear hdet hs hE1
 by_cases hE0 : E = 0
 rotate_left
 ·skip
  go_wp2_with fail
  go_ret
  exact Or.inl ⟨fun h => hE0 ((HE.out.1 h.1).trans (HE1.out.trans h.2)), ⟨E, rfl, hE0, fun h => (HE.out.1 h).trans HE1.out, HE.out.2⟩, B0.out⟩
 subst hE0
 have HKR : Hid (x.keepR ∧ E1 = 0) := Hi (by
  have hr : x.keepR := Classical.byContradiction (fun h => by have := HE.out.2 h; omega)
  exact ⟨hr, (HE.out.1 hr).symm⟩)
 have c0 : w2.cell? ⟨B, 0, none⟩ = some (.int .i64 1) := by rw [← HK.out]; exact A0.out.cells.1
 have c1 : w2.cell? ⟨B, 1, none⟩ = some (.int .i64 0) := by have h1 := HKR.out.1.2.1; rw [← h1]; exact A0.out.cells.2.1
 go_wp2_with fail
 clear c0 c1
 have hS0 : ∀ (listed : Array Bool) (f : Nat → Value), (∀ i, listed.getD i false = false) → Ex w2 w2.drew := fun _ _ _ => (Below.refl w2.heap.size w2).drew
 obtain ⟨T, hT⟩ : ∃ T : List (Value → Prop), T = [(fun zz => zz = .pointer (some ⟨M, 0, none⟩)), (fun zz => zz = .pointer (some ⟨B, 1, none⟩)), (fun zz => zz = .int .i64 0), (fun zz => zz = .pointer (some ⟨M, 0, none⟩)), (fun zz => zz = .pointer (some ⟨M, 2, none⟩)), (fun zz => zz = .pointer (some ⟨M, 2, none⟩)), (fun zz => zz = .pointer (some ⟨M, 2, none⟩))] := ⟨_, rfl⟩
 refine wp_region_gen (JS T ([] : List (Nat × Nat)) (fun _ _ wq => Ex w2 wq)) (by kernel_rfl) (by kernel_rfl) (by kernel_rfl) (fitB_spec (by kernel_rfl)) (fun listed f h => JS.start listed f h (hS0 listed f h)) ?_ ?_
 ·intro i o ho
  have hi : i < 7 := (Array.getElem?_eq_some_iff.1 ho).1
  have hi' : i = 0 ∨ i = 1 ∨ i = 2 ∨ i = 3 ∨ i = 4 ∨ i = 5 ∨ i = 6 := by omega
  clear hi
  rcases hi' with rfl | rfl | rfl | rfl | rfl | rfl | rfl
  all_goals (simp only [List.getElem?_toArray, List.getElem?_cons_zero, List.getElem?_cons_succ, Option.some.injEq] at ho; subst ho; intro listed f a w3 hJ hsz hls hun hdep hout hlat; first | (rw [if_pos (by rfl)]; intro K hK) | skip)
  ·have q0 := hout 0 ob
   exact wp_mw _ rfl q0 (hK _ _ (hJ.nx hls hT rfl rfl hJ.st nh))
  ·have q3 := hout 3 ob
   rw [gd9] at q3
   clear hsz hdep hout hlat
   go_simp
   exact hK _ _ (hJ.na hls hT hJ.st)
  ·have q14 := hJ.iq hT (hdep ⟨1, .data⟩ (by simp) rfl) rfl _ rfl _ rfl
   have c9 : w3.cell? ⟨B, 1, none⟩ = some (.int .i64 0) := by have h1 := HKR.out.1.2.1; rw [← h1]; exact (A0.out.ext hJ.st).cells.2.1
   clear hsz hdep hout hlat
   go_simp
   exact hK _ _ (hJ.nx hls hT rfl rfl hJ.st nh)
  ·have q13 := hJ.iq hT (hdep ⟨0, .data⟩ (by simp) rfl) rfl _ rfl _ rfl
   clear hsz hdep hout hlat
   go_simp
   exact hK _ _ (hJ.na hls hT hJ.st)
  ·have q16 := hJ.iq hT (hdep ⟨3, .data⟩ (by simp) rfl) rfl _ rfl _ rfl
   clear hsz hdep hout hlat
   go_simp
   exact hK _ _ (hJ.na hls hT hJ.st)
  ·have q17 := hJ.iq hT (hdep ⟨4, .data⟩ (by simp) rfl) rfl _ rfl _ rfl
   have q15 := hJ.iq hT (hdep ⟨2, .data⟩ (by simp) rfl) rfl _ rfl _ rfl
   clear hsz hdep hout hlat
   go_simp
   exact hK _ _ (hJ.na hls hT hJ.st)
  have q18 := hJ.iq hT (hdep ⟨5, .data⟩ (by simp) rfl) rfl _ rfl _ rfl
  clear hsz hdep hout hlat
  go_simp
  exact hK _ _ (hJ.na hls hT hJ.st)
 intro listed f w3 hall hJ
 have f6 := hJ.fa hT (hall 6 (by simp)) rfl
 have hst := hJ.st
 simp only [putAll, Act.put, List.setIfInBounds_toArray, List.set_cons_zero, List.set_cons_succ, Nat.zero_add, Nat.reduceAdd]
 have x3 : Ex w2 w3 := hst
 replace A0 := Hi (A0.out.ext x3)
 replace HS := Hi (HS.out.ext x3)
 replace B0 := Hi (Ex.trans B0.out x3)
 clear hst hS0 x3
 rw [f6]
 clear f6
 clear hJ hall hT
 have c0 : w3.cell? ⟨B, 0, none⟩ = some (.int .i64 1) := by rw [← HK.out]; exact A0.out.cells.1
 go_wp2_with fail
 clear c0
 have hS0 : ∀ (listed : Array Bool) (f : Nat → Value), (∀ i, listed.getD i false = false) → S13 w3 (fun z9 wp => ∃ wa, Ex w3 wa ∧ PutPost (D s) (r s) (v s) x.v wa (.returned z9) wp) listed f w3.drew := fun _ _ h0 => S13.start h0 (Below.refl w3.heap.size w3).drew
 obtain ⟨T, hT⟩ : ∃ T : List (Value → Prop), T = [(fun zz => zz = .pointer (some ⟨M, 0, none⟩)), (fun zz => zz = .pointer (some ⟨B, 4, none⟩)), (fun zz => zz = .pointer (some ⟨B, 4, none⟩)), (fun zz => zz = digV x.v.id), (fun zz => zz = .int .i64 (s : Int)), (fun zz => zz = .pointer (some ⟨M, 0, none⟩)), (fun zz => zz = .pointer (some ⟨M, 2, none⟩)), (fun zz => zz = .pointer (some ⟨M, 2 + s * 4, none⟩)), (fun zz => zz = .pointer (some ⟨M, 2 + s * 4 + 3, none⟩)), (fun zz => zz = .pointer (some ⟨D s, 0, none⟩)), (fun zz => zz = .pointer (some ⟨B, 4, none⟩)), (fun zz => zz = x.v.V), (fun _ => True), (fun zz => True)] := ⟨_, rfl⟩
 refine wp_region_gen (JS T ([(12, 9), (12, 11), (12, 4), (4, 3), (13, 12)] : List (Nat × Nat)) (fun lz fz wq => S13 w3 (fun z9 wp => ∃ wa, Ex w3 wa ∧ PutPost (D s) (r s) (v s) x.v wa (.returned z9) wp) lz fz wq)) (by kernel_rfl) (by kernel_rfl) (by kernel_rfl) (fitB_spec (by kernel_rfl)) (fun listed f h => JS.start listed f h (hS0 listed f h)) ?_ ?_
 ·intro i o ho
  have hi : i < 14 := (Array.getElem?_eq_some_iff.1 ho).1
  have hi' : i = 0 ∨ i = 1 ∨ i = 2 ∨ i = 3 ∨ i = 4 ∨ i = 5 ∨ i = 6 ∨ i = 7 ∨ i = 8 ∨ i = 9 ∨ i = 10 ∨ i = 11 ∨ i = 12 ∨ i = 13 := by omega
  clear hi
  rcases hi' with rfl | rfl | rfl | rfl | rfl | rfl | rfl | rfl | rfl | rfl | rfl | rfl | rfl | rfl
  all_goals (simp only [List.getElem?_toArray, List.getElem?_cons_zero, List.getElem?_cons_succ, Option.some.injEq] at ho; subst ho; intro listed f a w4 hJ hsz hls hun hdep hout hlat; first | (rw [if_pos (by rfl)]; intro K hK) | skip)
  ·have q0 := hout 0 ob
   exact wp_mw _ rfl q0 (hK _ _ (hJ.nx hls hT rfl rfl (S13.plain hJ.st (Ex.refl _) 0 (by decide)) nh))
  ·have q3 := hout 3 ob
   rw [gd9] at q3
   clear hsz hdep hout hlat
   go_simp
   exact hK _ _ (hJ.na hls hT (S13.plain hJ.st (Ex.refl _) 1 (by decide)))
  ·have q24 := hJ.iq hT (hdep ⟨1, .data⟩ (by simp) rfl) rfl _ rfl _ rfl
   clear hsz hdep hout hlat
   go_simp
   exact hK _ _ (hJ.na hls hT (S13.plain hJ.st (Ex.refl _) 2 (by decide)))
  ·have q25 := hJ.is hT (hdep ⟨2, .data⟩ (by simp) rfl) rfl _ rfl _ rfl
   have h12 : listed.getD 12 false = false := by
    cases hc : listed.getD 12 false with
    | false => rfl
    | true =>
     have hcx := hJ.ord (12, 4) (by simp) hc
     have hcxx := hJ.ord (4, 3) (by simp) hcx
     exact absurd hcxx (by rw [hun]; decide)
   have hpre := hJ.st.base.ex h12
   exact ld_rkid _ B x rfl q25 (A0.out.ext hpre) (hK _ _ (hJ.nx hls hT rfl rfl (S13.plain hJ.st (Ex.refl _) 3 (by decide)) nh))
  ·have q26 := hJ.iq hT (hdep ⟨3, .data⟩ (by simp) rfl) rfl _ rfl _ rfl
   have hl3 := (hdep ⟨3, .data⟩ (by simp) rfl).1
   have hord : ∀ x ∈ ([(12, 9), (12, 11), (12, 4), (4, 3), (13, 12)] : List (Nat × Nat)), x.1 = 4 → listed.getD x.2 false = true := (by intro x hx he; simp only [List.mem_cons, List.not_mem_nil, or_false] at hx; rcases hx with rfl | rfl | rfl | rfl | rfl; all_goals first | (exact absurd he (by decide)) | assumption)
   have hst := hJ.st
   clear hsz hdep hout hlat
   go_simp
   refine (iof_any x.v.id HX.out.v.ok.idN s HSH.out w4).mono ?_
   rintro e wq ⟨rfl, xq⟩
   exact hK _ _ (hJ.nx hls hT rfl rfl (S13.plain hst xq 4 (by decide)) hord)
  ·have q23 := hJ.iq hT (hdep ⟨0, .data⟩ (by simp) rfl) rfl _ rfl _ rfl
   clear hsz hdep hout hlat
   go_simp
   exact hK _ _ (hJ.na hls hT (S13.plain hJ.st (Ex.refl _) 5 (by decide)))
  ·have q28 := hJ.iq hT (hdep ⟨5, .data⟩ (by simp) rfl) rfl _ rfl _ rfl
   clear hsz hdep hout hlat
   go_simp
   exact hK _ _ (hJ.na hls hT (S13.plain hJ.st (Ex.refl _) 6 (by decide)))
  ·have q29 := hJ.iq hT (hdep ⟨6, .data⟩ (by simp) rfl) rfl _ rfl _ rfl
   have q27 := hJ.iq hT (hdep ⟨4, .data⟩ (by simp) rfl) rfl _ rfl _ rfl
   clear hsz hdep hout hlat
   go_simp
   exact hK _ _ (hJ.na hls hT (S13.plain hJ.st (Ex.refl _) 7 (by decide)))
  ·have q30 := hJ.iq hT (hdep ⟨7, .data⟩ (by simp) rfl) rfl _ rfl _ rfl
   clear hsz hdep hout hlat
   go_simp
   exact hK _ _ (hJ.na hls hT (S13.plain hJ.st (Ex.refl _) 8 (by decide)))
  ·have q31 := hJ.iq hT (hdep ⟨8, .data⟩ (by simp) rfl) rfl _ rfl _ rfl
   have h12 : listed.getD 12 false = false := by
    cases hc : listed.getD 12 false with
    | false => rfl
    | true =>
     have hcx := hJ.ord (12, 9) (by simp) hc
     exact absurd hcx (by rw [hun]; decide)
   have hpre := hJ.st.base.ex h12
   have c6 := ((HS.out.ext hpre).cells hs16).2.2.2
   clear hsz hdep hout hlat
   go_simp
   exact hK _ _ (hJ.nx hls hT rfl rfl (S13.plain hJ.st (Ex.refl _) 9 (by decide)) nh)
  ·have q3 := hout 3 ob
   rw [gd9] at q3
   clear hsz hdep hout hlat
   go_simp
   exact hK _ _ (hJ.na hls hT (S13.plain hJ.st (Ex.refl _) 10 (by decide)))
  ·have q33 := hJ.is hT (hdep ⟨10, .data⟩ (by simp) rfl) rfl _ rfl _ rfl
   have h12 : listed.getD 12 false = false := by
    cases hc : listed.getD 12 false with
    | false => rfl
    | true =>
     have hcx := hJ.ord (12, 11) (by simp) hc
     exact absurd hcx (by rw [hun]; decide)
   have hpre := hJ.st.base.ex h12
   exact ld_rkv _ B x rfl q33 (A0.out.ext hpre) (hK _ _ (hJ.nx hls hT rfl rfl (S13.plain hJ.st (Ex.refl _) 11 (by decide)) nh))
  ·have q32 := hJ.iq hT (hdep ⟨9, .data⟩ (by simp) rfl) rfl _ rfl _ rfl
   have q34 := hJ.iq hT (hdep ⟨11, .data⟩ (by simp) rfl) rfl _ rfl _ rfl
   have hl9 := (hdep ⟨9, .data⟩ (by simp) rfl).1
   have hl11 := (hdep ⟨11, .data⟩ (by simp) rfl).1
   have hl4 := (hdep ⟨4, .chain⟩ (by simp) rfl).1
   have hord : ∀ x ∈ ([(12, 9), (12, 11), (12, 4), (4, 3), (13, 12)] : List (Nat × Nat)), x.1 = 12 → listed.getD x.2 false = true := (by intro x hx he; simp only [List.mem_cons, List.not_mem_nil, or_false] at hx; rcases hx with rfl | rfl | rfl | rfl | rfl; all_goals first | (exact absurd he (by decide)) | assumption)
   have h12 : listed.getD 12 false = false := by
    cases hc : listed.getD 12 false with
    | false => rfl
    | true =>
     exact absurd hc (by rw [hun]; decide)
   have hpre := hJ.st.base.ex h12
   have h13 : listed.getD 13 false = false := by
    cases hc : listed.getD 13 false with
    | false => rfl
    | true =>
     have hcx := hJ.ord (13, 12) (by simp) hc
     exact absurd hcx (by rw [hun]; decide)
   have hst9 := hJ.st
   clear hsz hdep hout hlat
   go_simp
   have hp := tput_any (D s) (r s) (v s) x.v w4 ((HS.out.ext hpre).ts.tb s hs16) (HX.out.v.ext (Ex.trans B0.out hpre))
   refine hp.mono ?_
   intro e wq hq
   obtain ⟨E9, hE9⟩ : ∃ E9, e = .returned (.int .i64 E9) := by
    obtain ⟨E9, _, _, h9, _⟩ := put_ss (HS.out.ext hpre) hs16 hq
    exact ⟨E9, h9⟩
   subst hE9
   exact hK _ _ (hJ.nx hls hT rfl (by trivial) (S13.s12 hst9 (by rw [hls]; decide) h13 ⟨w4, hpre, hq⟩) hord)
  have dd35 := hdep ⟨12, .data⟩ (by simp) rfl
  have q35 := dd35.2 _ rfl _ rfl
  have hl12 := (hdep ⟨12, .data⟩ (by simp) rfl).1
  have hord : ∀ x ∈ ([(12, 9), (12, 11), (12, 4), (4, 3), (13, 12)] : List (Nat × Nat)), x.1 = 13 → listed.getD x.2 false = true := (by intro x hx he; simp only [List.mem_cons, List.not_mem_nil, or_false] at hx; rcases hx with rfl | rfl | rfl | rfl | rfl; all_goals first | (exact absurd he (by decide)) | assumption)
  have hl12 := (hdep ⟨12, .data⟩ (by simp) rfl).1
  rw [gd9] at q35
  clear hsz hdep hout hlat
  go_simp
  exact hK _ _ (hJ.nx hls hT rfl (by trivial) (S13.s13 hJ.st) hord)
 intro listed f w4 hall hJ
 have hst := hJ.st
 simp only [putAll, Act.put, List.setIfInBounds_toArray, List.set_cons_zero, List.set_cons_succ, Nat.zero_add, Nat.reduceAdd]
 obtain ⟨wp, ⟨wa, xa, hpp⟩, xp⟩ := hst.base.fin (hall 12 (by simp))
 rw [hst.val (hall 13 (by simp))]
 obtain ⟨E9, r2, ls, h1, h2, h3, h4, h5, h6⟩ := put_ss (HS.out.ext xa) hs16 hpp
 have h1 : f 12 = .int .i64 E9 := by injection h1
 rw [h1]
 have hE9 : E9 = 0 := by
  rcases h3 with h3 | ⟨_, h3⟩ | ⟨_, h3, h3b⟩
  ·exact h3
  ·exact absurd (HKR.out.1.1.symm.trans h3) (by decide)
  ·have hb := (getdet_in HDT.out).2 h3
   have hc := HKR.out.2
   rw [HE1.out, hb] at hc
   unfold ckE at hc
   rw [h3b] at hc
   split at hc
   ·cases hc
   ·split at hc
    ·cases hc
    ·rw [if_pos ⟨rfl, Nat.le_refl 4⟩] at hc; cases hc
 subst hE9
 have htc : Tc (D s) (r s).ownBlock w w4 := by
  have t1 : Tc (D s) (r s).ownBlock w wa := Ex.tc _ _ (Ex.trans B0.out xa)
  have t2 : Tc (D s) (r s).ownBlock wp w4 := Ex.tc _ _ xp
  exact ⟨t2.os.trans (h5.os.trans t1.os), t2.tape.trans (h5.tape.trans t1.tape), t2.output.trans (h5.output.trans t1.output), Nat.le_trans t1.size (Nat.le_trans h5.size t2.size), fun k hk a b => (t2.block k (Nat.lt_of_lt_of_le hk (Nat.le_trans t1.size h5.size)) a b).trans ((h5.block k (Nat.lt_of_lt_of_le hk t1.size) a b).trans (t1.block k hk a b))⟩
 have hlie : Lies w (r s) r2 := h6.imp id (fun h g hg => Nat.le_trans (Below.size (Ex.trans B0.out xa)) (h g hg))
 have HF : Hid (PutRel (v s) x.v ls ∧ SS w4 B9 M m n p D (updF r s r2) (updF v s ls) ∧ Tc (D s) (r s).ownBlock w w4 ∧ Lies w (r s) r2) := Hi ⟨h2, h4.ext xp, htc, hlie⟩
 clear hst hS0 h1 h2 h3 h4 h5 h6 hpp xp xa htc hlie
 clear hJ hall hT
 go_wp2_with fail
 go_ret
 exact Or.inr ⟨HKR.out.1, HE1.out.symm.trans HKR.out.2, rfl, r2, ls, HF.out⟩
theorem apply_done_bad (B9 M : Nat) (m n : Int) (p : Nat → Pa) (D : Nat → Nat) (r : Nat → Value) (v : Nat → List Vt) (x : Rk) (hk : x.kind = 4) (hE1 : ¬ ((p x.shard.toNat).role = 2 ∧ (p x.shard.toNat).ep = x.ep)) (w : World) (hx : x.In w) (h : SS w B9 M m n p D r v) : Calls Try.prog 17 #[.pointer (some ⟨M, 0, none⟩), x.V] w (SCPost x.doneR 26 w) := by
 have HE1 := Hi hE1
 clear hE1
 obtain ⟨cs, hcs⟩ : ∃ cs, cs = x.C.toArray := ⟨_, rfl⟩
 have A0 : Hid (KB9 (w.alloc (.cells cs 39)) w.heap.size x) := Hi ⟨hx.v.ok, by rw [hcs]; exact Bk.new rfl _ _⟩
 have B0 : Hid (Ex w (w.alloc (.cells cs 39))) := Hi (Ex.alloc _ _)
 have HS := Hi (h.ext B0.out)
 rw [show (Calls Try.prog 17 #[.pointer (some ⟨M, 0, none⟩), x.V] w) = (Calls Try.prog 17 #[.pointer (some ⟨M, 0, none⟩), .agg cs] w) by rw [hcs]; rfl]
 have HX := Hi hx
 clear hcs hx h
 have HK := Hi hk
 go_enter Try.func17, Try.ntmps17
 go_wp2_with (first | ((with_reducible refine so0 ?_ ?_); (focus rfl)) | ((with_reducible refine so4 [112, 1000 + 112, 32, 39] ?_ ?_); (focus rfl)))
 (with_reducible refine ⟨?_⟩)
 change wpList _ _ _ _ _ (w.alloc (.cells cs 39))
 generalize hw1 : w.alloc (.cells cs 39) = w1 at *
 clear hw1
 obtain ⟨B, hB⟩ : ∃ B, B = w.heap.size := ⟨_, rfl⟩
 rw [← hB] at A0 ⊢
 have HB := Hi hB
 clear hB
 (with_reducible refine at_any ?_ ?_); (focus go_simp); refine fun K0 hK => ld_rk _ B x rfl rfl A0.out (hK _ _ ?_)
 clear hK
 go_wp2_with fail
 refine (check_done B9 M m n p D r v x HK.out 26 (by rw [if_neg HE1.out]) w1 (HX.out.ext B0.out) HS.out).mono ?_
 rintro e w2 ⟨E, rfl, he1, he2, x2⟩
 replace A0 := Hi (A0.out.ext x2)
 replace HS := Hi (HS.out.ext x2)
 replace B0 := Hi (Ex.trans B0.out x2)
 have HE := Hi (And.intro he1 he2)
 clear he1 he2 x2
 have hE0 : E ≠ 0 := by
  by_cases hr : x.doneR
  ·rw [HE.out.1 hr]; decide
  ·rw [HE.out.2 hr]; decide
 go_wp2_with fail
 go_ret
 exact ⟨E, rfl, HE.out.1, HE.out.2, B0.out⟩
end Go.Proofs.Ytmjfnpmnhehnkaa
