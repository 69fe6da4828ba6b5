/- Se -/
import Derived.Test.YtmjfnpmnhehnkaaXar
namespace Go.Proofs.Ytmjfnpmnhehnkaa
open Go.RowKit
def ckE (p : Pa) (b : Bool) (n : Nat) : Int := if p.role = 0 then 26 else if p.role = 2 then 27 else if b = false ∧ 4 ≤ n then 13 else 0
theorem ckE_held {p : Pa} {b : Bool} {n : Nat} (h : heldE p ≠ 0) : ckE p b n = heldE p := by
 unfold heldE at h ⊢; unfold ckE
 split
 ·rfl
 split
 ·rfl
 rename_i h1 h2; rw [if_neg h1, if_neg h2] at h; exact absurd rfl h
theorem ckE_free {p : Pa} {b : Bool} {n : Nat} (h : heldE p = 0) : ckE p b n = if b = false ∧ 4 ≤ n then 13 else 0 := by
 unfold heldE at h; unfold ckE
 split
 ·rename_i h1; rw [if_pos h1] at h; cases h
 rename_i h1
 rw [if_neg h1] at h
 split
 ·rename_i h2; rw [if_pos h2] at h; cases h
 rfl
theorem heldE_in (p : Pa) : 0 ≤ heldE p ∧ heldE p ≤ 27 := by
 unfold heldE
 split
 ·omega
 split <;> omega
set_option maxHeartbeats 8000000 in
set_option maxRecDepth 100000 in
theorem ckeep_any (B M : Nat) (m n : Int) (p : Nat → Pa) (D : Nat → Nat) (r : Nat → Value) (v : Nat → List Vt) (id : List UInt8) (hid : id.length = 4) (s : Nat) (hs : Sm.shV id = (s : Int)) (hs16 : s < 16) (c : Vc) (b : Bool) (hdet : GetDet (v s) (idn id) c b) (w : World) (h : SS w B M m n p D r v) : Calls Try.prog 92 #[.pointer (some ⟨M, 0, none⟩), digV id] w fun e w' => e = .returned (.int .i64 (ckE (p s) b (v s).length)) ∧ Ex w w' := by
 obtain ⟨ds, hds⟩ : ∃ ds, ds = (Lib.byteCells id).toArray := ⟨_, rfl⟩
 have I0 : Hid (Bk (w.alloc (.cells ds 32)) w.heap.size 32 (Lib.byteCells id).toArray) := Hi (by rw [hds]; exact Bk.new rfl _ _)
 have BW : Hid (Ex w (w.alloc (.cells ds 32))) := Hi (Ex.alloc w _)
 have HS := Hi (h.ext BW.out)
 have HID := Hi hid
 have HDT := Hi hdet
 have HSH := Hi hs
 rw [show (Calls Try.prog 92 #[.pointer (some ⟨M, 0, none⟩), digV id] w) = (Calls Try.prog 92 #[.pointer (some ⟨M, 0, none⟩), .agg ds] w) by rw [hds]; rfl]
 have q0 : (0 : Int) ≤ (s : Int) := by omega
 have q1 : (s : Int) < 16 := by omega
 obtain ⟨n9, hn9⟩ : ∃ n, n = (v s).length := ⟨_, rfl⟩
 rw [← hn9]
 have HN9 := Hi hn9
 have hn4 : n9 ≤ 4 := by rw [hn9]; exact (h.ts.tb s hs16).len
 clear hds hid h hdet hs hn9
 go_enter Try.func92, Try.ntmps92
 go_wp2_with fail
 generalize hw1 : (w.alloc (.cells ds 32)) = w1 at *
 clear hw1
 obtain ⟨gi, hg⟩ : ∃ g, g = w.heap.size := ⟨_, rfl⟩
 rw [← hg] at I0 ⊢
 clear hg
 have hS0 : ∀ (listed : Array Bool) (f : Nat → Value), (∀ i, listed.getD i false = false) → S78 w1 112 4 (partC (p s) (some (D s))).toArray listed f w1.drew := fun _ _ h0 => S78.start h0 (Below.refl w1.heap.size w1).drew
 obtain ⟨T, hT⟩ : ∃ T : List (Value → Prop), T = [(fun zz => zz = .pointer (some ⟨M, 0, none⟩)), (fun zz => zz = digV id), (fun zz => zz = .int .i64 (s : Int)), (fun zz => zz = .pointer (some ⟨M, 0, none⟩)), (fun zz => zz = .pointer (some ⟨M, 2, none⟩)), (fun zz => zz = .pointer (some ⟨M, 2 + s * 4, none⟩)), (fun zz => zz = .agg (partC (p s) (some (D s))).toArray), (fun _ => True), (fun _ => True)] := ⟨_, rfl⟩
 refine wp_region_gen (JS T ([(8, 7)] : List (Nat × Nat)) (fun lz fz wq => S78 w1 112 4 (partC (p s) (some (D s))).toArray lz fz wq)) (by kernel_rfl) (by kernel_rfl) (by kernel_rfl) (fitB_spec (by kernel_rfl)) (fun listed f h => JS.start listed f h (hS0 listed f h)) ?_ ?_
 ·intro i o ho
  have hi : i < 9 := (Array.getElem?_eq_some_iff.1 ho).1
  have hi' : i = 0 ∨ i = 1 ∨ i = 2 ∨ i = 3 ∨ i = 4 ∨ i = 5 ∨ i = 6 ∨ i = 7 ∨ i = 8 := by omega
  clear hi
  rcases hi' with rfl | rfl | rfl | rfl | rfl | rfl | rfl | rfl | rfl
  all_goals (simp only [List.getElem?_toArray, List.getElem?_cons_zero, List.getElem?_cons_succ, Option.some.injEq] at ho; subst ho; intro listed f a w3 hJ hsz hls hun hdep hout hlat; first | (rw [if_pos (by rfl)]; intro K hK) | skip)
  ·have q0 := hout 0 (outB_spec (by kernel_rfl))
   refine wp_mv _ rfl (hK _ _ ?_)
   rw [show a.eval (.tmp 0) = .pointer (some ⟨M, 0, none⟩) from q0]
   exact hJ.nx hls hT rfl rfl (S78.plain hJ.st (Ex.refl _) 0 (by decide)) (no_head (by decide))
  ·have q3 := hout 3 (outB_spec (by kernel_rfl))
   exact ld_idb (.tmp 3) gi id HID.out rfl q3 (I0.out.ext hJ.st.ex) (hK _ _ (hJ.nx hls hT rfl rfl (S78.plain hJ.st (Ex.refl _) 1 (by decide)) (no_head (by decide))))
  ·have q10 := hJ.iq hT (hdep ⟨1, .data⟩ (by simp) rfl) rfl _ rfl _ rfl
   have hst := hJ.st
   clear hsz hdep hout hlat
   go_simp
   refine (iof_any id HID.out s HSH.out w3).mono ?_
   rintro e wq ⟨rfl, xq⟩
   exact hK _ _ (hJ.nx hls hT rfl rfl (S78.plain hst xq 2 (by decide)) (no_head (by decide)))
  ·have q9 := hJ.iq hT (hdep ⟨0, .data⟩ (by simp) rfl) rfl _ rfl _ rfl
   clear hsz hdep hout hlat
   go_simp
   exact hK _ _ (hJ.nx hls hT rfl (by first | rfl | exact congrArg (Value.int .i64) (by omega) | exact congrArg (Value.int .i64) (by rw [IntKind.wrap_i64]; omega) | exact congrArg Value.bool (decide_eq_false (by omega)) | exact congrArg Value.bool (decide_eq_true (by omega)) | exact congrArg (Value.int .u64) (by omega)) (S78.plain hJ.st (Ex.refl _) 3 (by decide)) (no_head (by decide)))
  ·have q12 := hJ.iq hT (hdep ⟨3, .data⟩ (by simp) rfl) rfl _ rfl _ rfl
   clear hsz hdep hout hlat
   go_simp
   exact hK _ _ (hJ.nx hls hT rfl (by first | rfl | exact congrArg (Value.int .i64) (by omega) | exact congrArg (Value.int .i64) (by rw [IntKind.wrap_i64]; omega) | exact congrArg Value.bool (decide_eq_false (by omega)) | exact congrArg Value.bool (decide_eq_true (by omega)) | exact congrArg (Value.int .u64) (by omega)) (S78.plain hJ.st (Ex.refl _) 4 (by decide)) (no_head (by decide)))
  ·have q13 := hJ.iq hT (hdep ⟨4, .data⟩ (by simp) rfl) rfl _ rfl _ rfl
   have q11 := hJ.iq hT (hdep ⟨2, .data⟩ (by simp) rfl) rfl _ rfl _ rfl
   clear hsz hdep hout hlat
   go_simp
   exact hK _ _ (hJ.nx hls hT rfl (by first | rfl | exact congrArg (Value.int .i64) (by omega) | exact congrArg (Value.int .i64) (by rw [IntKind.wrap_i64]; omega) | exact congrArg Value.bool (decide_eq_false (by omega)) | exact congrArg Value.bool (decide_eq_true (by omega)) | exact congrArg (Value.int .u64) (by omega)) (S78.plain hJ.st (Ex.refl _) 5 (by decide)) (no_head (by decide)))
  ·have q14 := hJ.is hT (hdep ⟨5, .data⟩ (by simp) rfl) rfl _ rfl _ rfl
   exact ld_spa _ s hs16 rfl q14 (HS.out.blk.ext hJ.st.ex) (hK _ _ (hJ.nx hls hT rfl rfl (S78.plain hJ.st (Ex.refl _) 6 (by decide)) (no_head (by decide))))
  ·have h8 : listed.getD 8 false = false := by
    cases hc : listed.getD 8 false with
    | false => rfl
    | true => exact absurd (hJ.ord (8, 7) (by simp) hc) (by rw [hun]; decide)
   have hst := hJ.st
   clear hsz hdep hout hlat
   go_simp
   exact hK _ _ (hJ.nx hls hT rfl (by trivial) (S78.s7 hst h8 (Ex.alloc _ _) (z := (partC ⟨0, 0, 0⟩ none).toArray) rfl rfl (Bk.new rfl 112 _)) (no_head (by decide)))
  have dd5 := hdep ⟨7, .data⟩ (by simp) rfl
  have q5 := dd5.2 _ rfl _ rfl
  have q15 := hJ.is hT (hdep ⟨6, .data⟩ (by simp) rfl) rfl _ rfl _ rfl
  have hl7 := (hdep ⟨7, .data⟩ (by simp) rfl).1
  have hord : ∀ x ∈ ([(8, 7)] : List (Nat × Nat)), x.1 = 8 → listed.getD x.2 false = true := (by intro x hx he; simp only [List.mem_cons, List.not_mem_nil, or_false] at hx; rcases hx with rfl; all_goals first | (exact absurd he (by decide)) | assumption)
  have hst := hJ.st
  have hl7 := (hdep ⟨7, .data⟩ (by simp) rfl).1
  obtain ⟨g, z, hg, hge, hz, hb⟩ := hst.e7 hl7 hun
  rw [hg] at q5
  exact st_pb _ _ g (p s) (some (D s)) rfl q5 q15 hb hz (fun w9 hd ho => hK _ _ (hJ.nx hls hT rfl (by trivial) (S78.s8 hst (by rw [hls]; decide) hl7 hg hge ho hd) hord))
 intro listed f w3 hall hJ
 have hst := hJ.st
 simp only [putAll, Act.put, List.setIfInBounds_toArray, List.set_cons_zero, List.set_cons_succ, Nat.zero_add, Nat.reduceAdd]
 obtain ⟨g, hg7, hge7, hb7⟩ := hst.e8 (hall 8 (by simp))
 rw [hg7]
 have HPB : Hid (PB9 w3 g (p s) (some (D s))) := Hi hb7
 have XR : Hid (Ex w1 w3) := Hi hst.ex
 clear hst hS0 hg7 hge7 hb7
 clear hJ hall hT
 replace HS := Hi (HS.out.ext XR.out)
 replace I0 := Hi (I0.out.ext XR.out)
 replace BW := Hi (Ex.trans BW.out XR.out)
 clear XR
 go_wp2_with (first | ((with_reducible refine so0 ?_ ?_); (focus rfl)) | ((with_reducible refine so4 [112, 1000 + 112, 32] ?_ ?_); (focus rfl)))
 refine at9 (by go_simp) fun K0 hK => ld_pb _ g (p s) (some (D s)) rfl rfl HPB.out (hK _ _ ?_)
 clear hK
 go_wp2_with fail
 refine (held_any (p s) (some (D s)) w3).mono ?_
 rintro e w4 ⟨rfl, x4⟩
 replace HS := Hi (HS.out.ext x4)
 replace I0 := Hi (I0.out.ext x4)
 replace BW := Hi (Ex.trans BW.out x4)
 replace HPB := Hi (HPB.out.ext x4)
 clear x4
 have hin := heldE_in (p s)
 by_cases hh : heldE (p s) = 0
 rotate_left
 ·obtain ⟨E, hE⟩ : ∃ E, E = heldE (p s) := ⟨_, rfl⟩
  rw [← hE] at hh hin ⊢
  have HE := Hi hE
  clear hE
  go_wp2_with fail
  go_ret
  exact ⟨congrArg (fun z : Int => Ending.returned (.int .i64 z)) (HE.out.trans (ckE_held (by rw [← HE.out]; exact hh)).symm), BW.out⟩
 rw [hh]
 clear hin
 have HH := Hi hh
 clear hh
 have c3 : w4.cell? ⟨g, 3, none⟩ = some (.pointer (some ⟨D s, 0, none⟩)) := HPB.out.cells.2.2.2
 go_wp2_with (first | ((with_reducible refine so0 ?_ ?_); (focus rfl)) | ((with_reducible refine so4 [112, 1000 + 112, 32] ?_ ?_); (focus rfl)))
 refine at9 (by go_simp) fun K0 hK => ld_idb _ gi id HID.out rfl rfl I0.out (hK _ _ ?_)
 clear hK
 go_wp2_with (first | ((with_reducible refine so0 ?_ ?_); (focus rfl)) | ((with_reducible refine so4 [112, 1000 + 112, 32] ?_ ?_); (focus rfl)))
 refine (tget_det id HID.out HDT.out w4 (HS.out.ts.tb s hs16)).mono ?_
 rintro e w5 ⟨x, rfl, h1, h2, x5⟩
 have HX := Hi h2
 replace HS := Hi (HS.out.ext x5)
 replace BW := Hi (Ex.trans BW.out x5)
 replace HPB := Hi (HPB.out.ext x5)
 clear x5 h1 h2 c3
 go_wp2_with (first | ((with_reducible refine so0 ?_ ?_); (focus rfl)) | ((with_reducible refine so4 [112, 1000 + 112, 32] ?_ ?_); (focus rfl)))
 refine at9 (by go_simp) fun K0 hK => st_v _ _ w5.heap.size x rfl rfl rfl HX.out.ok (Bk.new rfl _ _) (by rfl) (fun w6 hd ho => hK _ _ ?_)
 clear hK
 have x6 : Ex w5 w6 := ho.below w5.heap.size (Nat.le_refl _) w5 (Ex.alloc w5 _)
 replace HS := Hi (HS.out.ext x6)
 replace BW := Hi (Ex.trans BW.out x6)
 replace HPB := Hi (HPB.out.ext x6)
 clear hd ho x6 HX
 generalize w5.heap.size = g7
 have c3 : w6.cell? ⟨g, 3, none⟩ = some (.pointer (some ⟨D s, 0, none⟩)) := HPB.out.cells.2.2.2
 cases b
 ·skip
  go_wp2_with fail
  have CL := Hi (tlen_any (D s) (r s) (v s) w6 (HS.out.ts.tb s hs16))
  rw [← HN9.out] at CL
  refine CL.out.mono ?_
  rintro e w7 ⟨rfl, rfl⟩
  clear CL
  by_cases h4 : 4 ≤ n9
  ·obtain rfl : n9 = 4 := by omega
   go_wp2_with fail
   go_ret
   exact ⟨congrArg (fun z : Int => Ending.returned (.int .i64 z)) (show (13 : Int) = ckE (p s) _ _ from by rw [ckE_free HH.out, if_pos ⟨rfl, h4⟩]), BW.out⟩
  have h5 : ¬ (4 : Int) ≤ (n9 : Int) := by omega
  go_wp2_with fail
  go_ret
  exact ⟨congrArg (fun z : Int => Ending.returned (.int .i64 z)) (show (0 : Int) = ckE (p s) _ n9 from by rw [ckE_free HH.out, if_neg (fun h => h4 h.2)]), BW.out⟩
 skip
 go_wp2_with fail
 go_ret
 exact ⟨congrArg (fun z : Int => Ending.returned (.int .i64 z)) (show (0 : Int) = ckE (p s) _ n9 from by rw [ckE_free HH.out, if_neg (fun h => by cases h.1)]), BW.out⟩
def SCPost (P : Prop) (E1 : Int) (w : World) (e : Ending) (w' : World) : Prop := ∃ E : Int, e = .returned (.int .i64 E) ∧ (P → E = E1) ∧ (¬ P → E = 1) ∧ Ex w w'
set_option maxHeartbeats 8000000 in
set_option maxRecDepth 100000 in
theorem check_keep (B9 M : Nat) (m n : Int) (p : Nat → Pa) (D : Nat → Nat) (r : Nat → Value) (v : Nat → List Vt) (x : Rk) (hk : x.kind = 1) (s : Nat) (hs : Sm.shV x.v.id = (s : Int)) (hs16 : s < 16) (c : Vc) (b : Bool) (hdet : GetDet (v s) (idn x.v.id) c b) (w : World) (hx : x.In w) (h : SS w B9 M m n p D r v) : Calls Try.prog 54 #[.pointer (some ⟨M, 0, none⟩), x.V] w (SCPost x.keepR (ckE (p s) b (v s).length) w) := by
 obtain ⟨cs, hcs⟩ : ∃ cs, cs = x.C.toArray := ⟨_, rfl⟩
 have A0 : Hid (KB9 (w.alloc (.cells cs 39)) w.heap.size x) := Hi ⟨hx.v.ok, by rw [hcs]; exact Bk.new rfl _ _⟩
 have B0 : Hid (Ex w (w.alloc (.cells cs 39))) := Hi (Ex.alloc _ _)
 have HS := Hi (h.ext B0.out)
 rw [show (Calls Try.prog 54 #[.pointer (some ⟨M, 0, none⟩), x.V] w) = (Calls Try.prog 54 #[.pointer (some ⟨M, 0, none⟩), .agg cs] w) by rw [hcs]; rfl]
 have HX := Hi hx
 clear hcs hx h
 have HK := Hi hk
 go_enter Try.func54, Try.ntmps54
 go_wp2_with (first | ((with_reducible refine so0 ?_ ?_); (focus rfl)) | ((with_reducible refine so4 [112, 1000 + 112, 32, 39] ?_ ?_); (focus rfl)))
 (with_reducible refine ⟨?_⟩)
 change wpList _ _ _ _ _ (w.alloc (.cells cs 39))
 generalize hw1 : w.alloc (.cells cs 39) = w1 at *
 clear hw1
 obtain ⟨B, hB⟩ : ∃ B, B = w.heap.size := ⟨_, rfl⟩
 rw [← hB] at A0 ⊢
 have HB := Hi hB
 clear hB
 (with_reducible refine at_any ?_ ?_); (focus go_simp); refine fun K0 hK => ld_rk _ B x rfl rfl A0.out (hK _ _ ?_)
 clear hK
 go_wp2_with fail
 refine (rrec_keep x HK.out w1 (HX.out.ext B0.out)).mono ?_
 rintro e w2 ⟨b9, rfl, hb, x2⟩
 replace A0 := Hi (A0.out.ext x2)
 replace HS := Hi (HS.out.ext x2)
 replace B0 := Hi (Ex.trans B0.out x2)
 have HBR := Hi hb
 clear hb x2
 have c0 : w2.cell? ⟨B, 0, none⟩ = some (.int .i64 1) := by rw [← HK.out]; exact A0.out.cells.1
 cases b9
 ·skip
  go_wp2_with fail
  go_ret
  exact ⟨1, rfl, fun h => absurd (HBR.out.2 h) (by simp), fun _ => rfl, B0.out⟩
 skip
 go_wp2_with (first | ((with_reducible refine so0 ?_ ?_); (focus rfl)) | ((with_reducible refine so4 [112, 1000 + 112, 32, 39] ?_ ?_); (focus rfl)))
 refine at9 (by go_simp) fun K0 hK => ld_rkid _ B x rfl rfl A0.out (hK _ _ ?_)
 clear hK
 go_wp2_with fail
 refine (ckeep_any B9 M m n p D r v x.v.id HX.out.v.ok.idN s hs hs16 c b hdet w2 HS.out).mono ?_
 rintro e w3 ⟨rfl, x3⟩
 replace B0 := Hi (Ex.trans B0.out x3)
 obtain ⟨E, hE⟩ : ∃ E, E = ckE (p s) b (v s).length := ⟨_, rfl⟩
 have HE := Hi hE
 rw [← hE]
 clear hE x3 hdet
 go_wp2_with fail
 go_ret
 exact ⟨E, rfl, fun _ => HE.out, fun h => absurd (HBR.out.1 (by simp)) h, B0.out⟩
set_option maxHeartbeats 8000000 in
set_option maxRecDepth 100000 in
theorem check_done (B9 M : Nat) (m n : Int) (p : Nat → Pa) (D : Nat → Nat) (r : Nat → Value) (v : Nat → List Vt) (x : Rk) (hk : x.kind = 4) (E1 : Int) (hE1 : E1 = if (p x.shard.toNat).role = 2 ∧ (p x.shard.toNat).ep = x.ep then 0 else 26) (w : World) (hx : x.In w) (h : SS w B9 M m n p D r v) : Calls Try.prog 54 #[.pointer (some ⟨M, 0, none⟩), x.V] w (SCPost x.doneR E1 w) := by
 have HE1 := Hi hE1
 clear hE1
 obtain ⟨cs, hcs⟩ : ∃ cs, cs = x.C.toArray := ⟨_, rfl⟩
 have A0 : Hid (KB9 (w.alloc (.cells cs 39)) w.heap.size x) := Hi ⟨hx.v.ok, by rw [hcs]; exact Bk.new rfl _ _⟩
 have B0 : Hid (Ex w (w.alloc (.cells cs 39))) := Hi (Ex.alloc _ _)
 have HS := Hi (h.ext B0.out)
 rw [show (Calls Try.prog 54 #[.pointer (some ⟨M, 0, none⟩), x.V] w) = (Calls Try.prog 54 #[.pointer (some ⟨M, 0, none⟩), .agg cs] w) by rw [hcs]; rfl]
 have HX := Hi hx
 clear hcs hx h
 have HK := Hi hk
 go_enter Try.func54, Try.ntmps54
 go_wp2_with (first | ((with_reducible refine so0 ?_ ?_); (focus rfl)) | ((with_reducible refine so4 [112, 1000 + 112, 32, 39] ?_ ?_); (focus rfl)))
 (with_reducible refine ⟨?_⟩)
 change wpList _ _ _ _ _ (w.alloc (.cells cs 39))
 generalize hw1 : w.alloc (.cells cs 39) = w1 at *
 clear hw1
 obtain ⟨B, hB⟩ : ∃ B, B = w.heap.size := ⟨_, rfl⟩
 rw [← hB] at A0 ⊢
 have HB := Hi hB
 clear hB
 (with_reducible refine at_any ?_ ?_); (focus go_simp); refine fun K0 hK => ld_rk _ B x rfl rfl A0.out (hK _ _ ?_)
 clear hK
 go_wp2_with fail
 refine (rrec_done x HK.out w1 (HX.out.ext B0.out)).mono ?_
 rintro e w2 ⟨b9, rfl, hb, x2⟩
 replace A0 := Hi (A0.out.ext x2)
 replace HS := Hi (HS.out.ext x2)
 replace B0 := Hi (Ex.trans B0.out x2)
 have HBR := Hi hb
 clear hb x2
 have c0 : w2.cell? ⟨B, 0, none⟩ = some (.int .i64 4) := by rw [← HK.out]; exact A0.out.cells.1
 cases b9
 ·skip
  go_wp2_with fail
  go_ret
  exact ⟨1, rfl, fun h => absurd (HBR.out.2 h) (by simp), fun _ => rfl, B0.out⟩
 obtain ⟨⟨g0, g1, g2, g3, g4⟩, g5, g6⟩ := HBR.out.1 (by simp)
 obtain ⟨s, hs⟩ : ∃ s : Nat, x.shard = (s : Int) := ⟨x.shard.toNat, by omega⟩
 have hs16 : s < 16 := by omega
 have q0 : (0 : Int) ≤ (s : Int) := by omega
 have q1 : (s : Int) < 16 := by omega
 have HSS := Hi hs
 have HNG : Hid x.doneR := Hi (HBR.out.1 (by simp))
 clear g0 g1 g2 g3 g4 g5 g6 HBR hs
 go_wp2_with fail
 clear c0
 have hS0 : ∀ (listed : Array Bool) (f : Nat → Value), (∀ i, listed.getD i false = false) → S78 w2 112 4 (partC (p s) (some (D s))).toArray listed f w2.drew := fun _ _ h0 => S78.start h0 (Below.refl w2.heap.size w2).drew
 obtain ⟨T, hT⟩ : ∃ T : List (Value → Prop), T = [(fun zz => zz = .pointer (some ⟨M, 0, none⟩)), (fun zz => zz = .pointer (some ⟨B, 1, none⟩)), (fun zz => zz = .int .i64 (s : Int)), (fun zz => zz = .pointer (some ⟨M, 0, none⟩)), (fun zz => zz = .pointer (some ⟨M, 2, none⟩)), (fun zz => zz = .pointer (some ⟨M, 2 + s * 4, none⟩)), (fun zz => zz = .agg (partC (p s) (some (D s))).toArray), (fun _ => True), (fun _ => True)] := ⟨_, rfl⟩
 refine wp_region_gen (JS T ([(8, 7)] : List (Nat × Nat)) (fun lz fz wq => S78 w2 112 4 (partC (p s) (some (D s))).toArray lz fz wq)) (by kernel_rfl) (by kernel_rfl) (by kernel_rfl) (fitB_spec (by kernel_rfl)) (fun listed f h => JS.start listed f h (hS0 listed f h)) ?_ ?_
 ·intro i o ho
  have hi : i < 9 := (Array.getElem?_eq_some_iff.1 ho).1
  have hi' : i = 0 ∨ i = 1 ∨ i = 2 ∨ i = 3 ∨ i = 4 ∨ i = 5 ∨ i = 6 ∨ i = 7 ∨ i = 8 := by omega
  clear hi
  rcases hi' with rfl | rfl | rfl | rfl | rfl | rfl | rfl | rfl | rfl
  all_goals (simp only [List.getElem?_toArray, List.getElem?_cons_zero, List.getElem?_cons_succ, Option.some.injEq] at ho; subst ho; intro listed f a w3 hJ hsz hls hun hdep hout hlat; first | (rw [if_pos (by rfl)]; intro K hK) | skip)
  ·have q0 := hout 0 (outB_spec (by kernel_rfl))
   refine wp_mv _ rfl (hK _ _ ?_)
   rw [show a.eval (.tmp 0) = .pointer (some ⟨M, 0, none⟩) from q0]
   exact hJ.nx hls hT rfl rfl (S78.plain hJ.st (Ex.refl _) 0 (by decide)) (no_head (by decide))
  ·have q3 := hout 3 (outB_spec (by kernel_rfl))
   rw [Array.getD_eq_getD_getElem?] at q3
   clear hsz hdep hout hlat
   go_simp
   exact hK _ _ (hJ.nx hls hT rfl (by first | rfl | exact congrArg (Value.int .i64) (by omega) | exact congrArg (Value.int .i64) (by rw [IntKind.wrap_i64]; omega) | exact congrArg Value.bool (decide_eq_false (by omega)) | exact congrArg Value.bool (decide_eq_true (by omega)) | exact congrArg (Value.int .u64) (by omega)) (S78.plain hJ.st (Ex.refl _) 1 (by decide)) (no_head (by decide)))
  ·have q29 := hJ.iq hT (hdep ⟨1, .data⟩ (by simp) rfl) rfl _ rfl _ rfl
   have c1 : w3.cell? ⟨B, 1, none⟩ = some (.int .i64 (s : Int)) := by rw [← HSS.out]; exact (A0.out.ext hJ.st.ex).cells.2.1
   clear hsz hdep hout hlat
   go_simp
   exact hK _ _ (hJ.nx hls hT rfl rfl (S78.plain hJ.st (Ex.refl _) 2 (by decide)) (no_head (by decide)))
  ·have q28 := hJ.iq hT (hdep ⟨0, .data⟩ (by simp) rfl) rfl _ rfl _ rfl
   clear hsz hdep hout hlat
   go_simp
   exact hK _ _ (hJ.nx hls hT rfl (by first | rfl | exact congrArg (Value.int .i64) (by omega) | exact congrArg (Value.int .i64) (by rw [IntKind.wrap_i64]; omega) | exact congrArg Value.bool (decide_eq_false (by omega)) | exact congrArg Value.bool (decide_eq_true (by omega)) | exact congrArg (Value.int .u64) (by omega)) (S78.plain hJ.st (Ex.refl _) 3 (by decide)) (no_head (by decide)))
  ·have q31 := hJ.iq hT (hdep ⟨3, .data⟩ (by simp) rfl) rfl _ rfl _ rfl
   clear hsz hdep hout hlat
   go_simp
   exact hK _ _ (hJ.nx hls hT rfl (by first | rfl | exact congrArg (Value.int .i64) (by omega) | exact congrArg (Value.int .i64) (by rw [IntKind.wrap_i64]; omega) | exact congrArg Value.bool (decide_eq_false (by omega)) | exact congrArg Value.bool (decide_eq_true (by omega)) | exact congrArg (Value.int .u64) (by omega)) (S78.plain hJ.st (Ex.refl _) 4 (by decide)) (no_head (by decide)))
  ·have q32 := hJ.iq hT (hdep ⟨4, .data⟩ (by simp) rfl) rfl _ rfl _ rfl
   have q30 := hJ.iq hT (hdep ⟨2, .data⟩ (by simp) rfl) rfl _ rfl _ rfl
   clear hsz hdep hout hlat
   go_simp
   exact hK _ _ (hJ.nx hls hT rfl (by first | rfl | exact congrArg (Value.int .i64) (by omega) | exact congrArg (Value.int .i64) (by rw [IntKind.wrap_i64]; omega) | exact congrArg Value.bool (decide_eq_false (by omega)) | exact congrArg Value.bool (decide_eq_true (by omega)) | exact congrArg (Value.int .u64) (by omega)) (S78.plain hJ.st (Ex.refl _) 5 (by decide)) (no_head (by decide)))
  ·have q33 := hJ.is hT (hdep ⟨5, .data⟩ (by simp) rfl) rfl _ rfl _ rfl
   exact ld_spa _ s hs16 rfl q33 (HS.out.blk.ext hJ.st.ex) (hK _ _ (hJ.nx hls hT rfl rfl (S78.plain hJ.st (Ex.refl _) 6 (by decide)) (no_head (by decide))))
  ·have h8 : listed.getD 8 false = false := by
    cases hc : listed.getD 8 false with
    | false => rfl
    | true => exact absurd (hJ.ord (8, 7) (by simp) hc) (by rw [hun]; decide)
   have hst := hJ.st
   clear hsz hdep hout hlat
   go_simp
   exact hK _ _ (hJ.nx hls hT rfl (by trivial) (S78.s7 hst h8 (Ex.alloc _ _) (z := (partC ⟨0, 0, 0⟩ none).toArray) rfl rfl (Bk.new rfl 112 _)) (no_head (by decide)))
  have dd5 := hdep ⟨7, .data⟩ (by simp) rfl
  have q5 := dd5.2 _ rfl _ rfl
  have q34 := hJ.is hT (hdep ⟨6, .data⟩ (by simp) rfl) rfl _ rfl _ rfl
  have hl7 := (hdep ⟨7, .data⟩ (by simp) rfl).1
  have hord : ∀ x ∈ ([(8, 7)] : List (Nat × Nat)), x.1 = 8 → listed.getD x.2 false = true := (by intro x hx he; simp only [List.mem_cons, List.not_mem_nil, or_false] at hx; rcases hx with rfl; all_goals first | (exact absurd he (by decide)) | assumption)
  have hst := hJ.st
  have hl7 := (hdep ⟨7, .data⟩ (by simp) rfl).1
  obtain ⟨g, z, hg, hge, hz, hb⟩ := hst.e7 hl7 hun
  rw [hg] at q5
  exact st_pb _ _ g (p s) (some (D s)) rfl q5 q34 hb hz (fun w9 hd ho => hK _ _ (hJ.nx hls hT rfl (by trivial) (S78.s8 hst (by rw [hls]; decide) hl7 hg hge ho hd) hord))
 intro listed f w3 hall hJ
 have hst := hJ.st
 simp only [putAll, Act.put, List.setIfInBounds_toArray, List.set_cons_zero, List.set_cons_succ, Nat.zero_add, Nat.reduceAdd]
 obtain ⟨g, hg7, hge7, hb7⟩ := hst.e8 (hall 8 (by simp))
 rw [hg7]
 have HPB : Hid (PB9 w3 g (p s) (some (D s))) := Hi hb7
 have XR : Hid (Ex w2 w3) := Hi hst.ex
 clear hst hS0 hg7 hge7 hb7
 clear hJ hall hT
 replace A0 := Hi (A0.out.ext XR.out)
 replace HS := Hi (HS.out.ext XR.out)
 replace B0 := Hi (Ex.trans B0.out XR.out)
 clear XR
 obtain ⟨pr, hpr⟩ : ∃ q, q = p s := ⟨_, rfl⟩
 rw [← hpr] at HPB
 have HPR := Hi hpr
 clear hpr
 obtain ⟨d0, d1, _, _⟩ := HPB.out.cells
 have c3 : w3.cell? ⟨B, 3, none⟩ = some (.int .u64 x.ep) := A0.out.cells.2.2.2.1
 by_cases h2 : pr.role = 2
 ·by_cases h3 : pr.ep = x.ep
  ·skip
   go_wp2_with fail
   go_ret
   exact ⟨0, rfl, fun _ => by rw [HE1.out, HSS.out, Int.toNat_natCast, if_pos (by rw [← HPR.out]; exact ⟨h2, h3⟩)], fun h => absurd HNG.out h, B0.out⟩
  skip
  go_wp2_with fail
  go_ret
  exact ⟨26, rfl, fun _ => by rw [HE1.out, HSS.out, Int.toNat_natCast, if_neg (by rw [← HPR.out]; exact fun h => h3 h.2)], fun h => absurd HNG.out h, B0.out⟩
 skip
 go_wp2_with fail
 go_ret
 exact ⟨26, rfl, fun _ => by rw [HE1.out, HSS.out, Int.toNat_natCast, if_neg (by rw [← HPR.out]; exact fun h => h2 h.1)], fun h => absurd HNG.out h, B0.out⟩
end Go.Proofs.Ytmjfnpmnhehnkaa
