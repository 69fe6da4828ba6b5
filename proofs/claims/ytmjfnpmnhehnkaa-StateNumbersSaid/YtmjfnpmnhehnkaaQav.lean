/- So -/
import Derived.Test.YtmjfnpmnhehnkaaQau
set_option maxRecDepth 100000
set_option maxHeartbeats 16000000
namespace Go.Proofs.Ytmjfnpmnhehnkaa
open Go.RowKit
def AllOf (xs : List Vt) (s : Int) : Prop := ∀ x, x ∈ xs → Sm.shV x.id = s
def Rk.inR (x : Rk) : Prop := x.step ∧ x.tw = 0 ∧ Rising x.l
theorem allof_any (s : Int) (ad : Option Addr) (cap : Nat) (xs : List Vt) (hcap : cap ≤ 9223372036854775807) (w : World) (hin : Vp.In ad cap xs w) (hvi : ∀ (i : Nat) (x : Vt), xs[i]? = some x → VI w x) : Calls Try.prog 87 #[.int .i64 s, .slice ad xs.length cap] w (BPost (AllOf xs s) w) := by
 have HIN := Hi hin
 have HVI := Hi hvi
 obtain ⟨n, hn⟩ : ∃ n, n = xs.length := ⟨_, rfl⟩
 have HN := Hi hn
 rw [← hn]
 have hnb : n ≤ 9223372036854775807 := by rw [hn]; exact Nat.le_trans hin.len hcap
 clear hn hin hvi hcap
 go_enter Try.func87, Try.ntmps87
 go_wp2_with fail
 go_loopw [9] (fun i wr => ∃ k : Nat, k ≤ n ∧ i = .int .i64 k ∧ Hid (∀ (j : Nat) (x : Vt), j < k → xs[j]? = some x → Sm.shV x.id = s) ∧ Hid (Ex w wr)) (fun i _ => n - (intOf i).toNat)
 case atStart => exact ⟨0, by omega, rfl, Hi (fun j x hj => absurd hj (Nat.not_lt_zero j)), Hi (Ex.refl _)⟩
 obtain ⟨k, hk, rfl, HG, BW⟩ := hrel
 by_cases hlt : k < n
 rotate_left
 ·obtain rfl : k = n := by omega
  have q1 : ¬ (k : Int) < (k : Int) := by omega
  have HAL : Hid (AllOf xs s) := Hi (fun x hx => by
   obtain ⟨j, hj⟩ := List.mem_iff_getElem?.1 hx
   exact HG.out j x (by rw [HN.out]; exact (List.getElem?_eq_some_iff.1 hj).1) hj)
  go_wp2_with fail
  go_ret
  exact ⟨true, rfl, ⟨fun _ => HAL.out, fun _ => rfl⟩, BW.out⟩
 have q0 : (0 : Int) ≤ (k : Int) := by omega
 have q1 : (k : Int) < (n : Int) := by omega
 obtain ⟨x, hx⟩ : ∃ x, xs[k]? = some x := ⟨_, List.getElem?_eq_getElem (by rw [← HN.out]; omega)⟩
 obtain ⟨ab, o, rfl, hab2, hra⟩ := (HIN.out.ext BW.out).read (by rw [← HN.out]; omega)
 have XR := Hi (hra k x hx)
 have XV := Hi (HVI.out k x hx)
 have HXK := Hi hx
 clear hra hab2 hx
 go_wp2_with (first | ((with_reducible refine so0 ?_ ?_); (focus rfl)) | ((with_reducible refine so4 [32, 39] ?_ ?_); (focus rfl)))
 refine at9 (by go_simp) fun K0 hK => ld_vr _ ab (o + k * 42) x XV.out.ok rfl rfl XR.out (hK _ _ ?_)
 clear hK
 go_wp2_with (first | ((with_reducible refine so0 ?_ ?_); (focus rfl)) | ((with_reducible refine so4 [32, 39] ?_ ?_); (focus rfl)))
 refine at9 (by go_simp) fun K0 hK => st_v _ _ wr.heap.size x rfl rfl rfl XV.out.ok (Bk.new rfl _ _) (by rfl) (fun w2 hd ho => hK _ _ ?_)
 clear hK
 have xx : Ex wr w2 := ho.below wr.heap.size (Nat.le_refl _) wr (Ex.alloc wr _)
 have HD := Hi hd
 replace BW := Hi (Ex.trans BW.out xx)
 obtain ⟨g, hg⟩ : ∃ g, g = wr.heap.size := ⟨_, rfl⟩
 rw [← hg] at HD ⊢
 clear xx hd ho hg XR
 go_wp2_with (first | ((with_reducible refine so0 ?_ ?_); (focus rfl)) | ((with_reducible refine so4 [32, 39] ?_ ?_); (focus rfl)))
 refine at9 (by go_simp) fun K0 hK => ld_vid _ g x rfl rfl HD.out (hK _ _ ?_)
 clear hK
 go_wp2_with fail
 obtain ⟨sx, hsx, _⟩ := shv_range x.id
 have HSX := Hi hsx
 refine (iof_any x.id XV.out.ok.idN sx hsx w2).mono ?_
 rintro e w3 ⟨rfl, x3⟩
 clear hsx
 replace BW := Hi (Ex.trans BW.out x3)
 clear x3
 by_cases h : (sx : Int) = s
 ·have HGN : Hid (∀ (j : Nat) (x : Vt), j < k + 1 → xs[j]? = some x → Sm.shV x.id = s) := Hi (fun j y hj hy => by
   rcases Nat.lt_or_ge j k with h9 | h9
   ·exact HG.out j y h9 hy
   ·obtain rfl : j = k := by omega
    rw [HXK.out] at hy; cases hy; exact HSX.out.trans h)
  go_wp2_with fail
  go_roundw
  case rel => exact ⟨k + 1, by omega, by go_num, HGN, BW⟩
  case measure => simp [intOf]; omega
 have HNO : Hid (¬ AllOf xs s) := Hi (fun ha => h (HSX.out.symm.trans (ha x (List.mem_of_getElem? HXK.out))))
 go_wp2_with fail
 go_ret
 exact ⟨false, rfl, ⟨(fun h => by cases h), fun h => absurd h HNO.out⟩, BW.out⟩
theorem rrec_in (x : Rk) (hk : x.kind = 3) (w : World) (hx : x.In w) : Calls Try.prog 91 #[x.V] w (BPost x.inR w) := by
 obtain ⟨cs, hcs⟩ : ∃ cs, cs = x.C.toArray := ⟨_, rfl⟩
 have A0 : Hid (KB9 (w.alloc (.cells cs 39)) w.heap.size x) := Hi ⟨hx.v.ok, by rw [hcs]; exact Bk.new rfl _ _⟩
 have B0 : Hid (Ex w (w.alloc (.cells cs 39))) := Hi (Ex.alloc _ _)
 rw [show (Calls Try.prog 91 #[x.V] w) = (Calls Try.prog 91 #[.agg cs] w) by rw [hcs]; rfl]
 have HX := Hi hx
 clear hcs hx
 obtain ⟨c0, c1, c2, c3, c46⟩ := A0.out.cells
 rw [hk] at c0
 have HK := Hi hk
 clear hk
 go_enter Try.func91, Try.ntmps91
 go_wp2_with (first | ((with_reducible refine so0 ?_ ?_); (focus rfl)) | ((with_reducible refine so4 [39, 36] ?_ ?_); (focus rfl)))
 (with_reducible refine ⟨?_⟩)
 change wpList _ _ _ _ _ (w.alloc (.cells cs 39))
 generalize hw1 : w.alloc (.cells cs 39) = w1 at *
 clear hw1
 obtain ⟨B, hB⟩ : ∃ B, B = w.heap.size := ⟨_, rfl⟩
 rw [← hB] at A0 c0 c1 c2 c3 c46 ⊢
 have HB := Hi hB
 clear hB
 (with_reducible refine at_any ?_ ?_); (focus go_simp); refine fun K0 hK => ld_rk _ B x rfl rfl A0.out (hK _ _ ?_)
 clear hK
 go_wp2_with fail
 refine (rstep_any x w1 (HX.out.ext B0.out)).mono ?_
 rintro e w2 ⟨b, rfl, hb, x2⟩
 have HBR := Hi hb
 replace A0 := Hi (A0.out.ext x2)
 replace B0 := Hi (Ex.trans B0.out x2)
 clear hb x2 c0 c1 c2 c3 c46
 obtain ⟨c0, c1, c2, c3, c46⟩ := A0.out.cells
 cases b
 ·skip
  go_wp2_with fail
  go_ret
  exact ⟨false, rfl, ⟨(fun h => by cases h), fun h => absurd (HBR.out.2 h.1) (by simp)⟩, B0.out⟩
 by_cases h0 : x.tw = 0
 ·have CR := rrow_any x.ad x.cap x.l HX.out.cap w2 (HX.out.inn.ext B0.out) (fun i y hy => (HX.out.ins i y hy).ext B0.out)
  obtain ⟨n, hn⟩ : ∃ n, n = x.l.length := ⟨_, rfl⟩
  rw [← hn] at c46 CR
  have CR2 := Hi CR
  clear hn CR
  go_wp2_with fail
  refine CR2.out.mono ?_
  rintro e w3 ⟨b, rfl, hb, x3⟩
  have HB3 := Hi hb
  replace B0 := Hi (Ex.trans B0.out x3)
  clear hb x3 CR2
  go_wp2_with fail
  go_ret
  exact ⟨b, rfl, ⟨fun h => ⟨HBR.out.1 (by simp), h0, HB3.out.1 h⟩, fun h => HB3.out.2 h.2.2⟩, B0.out⟩
 skip
 go_wp2_with fail
 go_ret
 exact ⟨false, rfl, ⟨(fun h => by cases h), fun h => absurd h.2.1 (by omega)⟩, B0.out⟩
def inE (p : Pa) (ep : Int) : Int := if p.role = 1 then 26 else if ep ≤ p.ep then 31 else 0
theorem cin_any (B9 M : Nat) (m n : Int) (p : Nat → Pa) (D : Nat → Nat) (r : Nat → Value) (v : Nat → List Vt) (x : Rk) (s : Nat) (hs : x.shard = (s : Int)) (hs16 : s < 16) (E1 : Int) (hE1 : AllOf x.l (s : Int) → E1 = inE (p s) x.ep) (hE2 : ¬ AllOf x.l (s : Int) → E1 = 1) (w : World) (hx : x.In w) (h : SS w B9 M m n p D r v) : Calls Try.prog 94 #[.pointer (some ⟨M, 0, none⟩), x.V] w fun e w' => e = .returned (.int .i64 E1) ∧ Ex w w' := by
 have HE1 := Hi hE1
 have HE2 := Hi hE2
 clear hE1 hE2
 obtain ⟨cs, hcs⟩ : ∃ cs, cs = x.C.toArray := ⟨_, rfl⟩
 have A0 : Hid (KB9 (w.alloc (.cells cs 39)) w.heap.size x) := Hi ⟨hx.v.ok, by rw [hcs]; exact Bk.new rfl _ _⟩
 have B0 : Hid (Ex w (w.alloc (.cells cs 39))) := Hi (Ex.alloc _ _)
 have HS := Hi (h.ext B0.out)
 rw [show (Calls Try.prog 94 #[.pointer (some ⟨M, 0, none⟩), x.V] w) = (Calls Try.prog 94 #[.pointer (some ⟨M, 0, none⟩), .agg cs] w) by rw [hcs]; rfl]
 have HX := Hi hx
 clear hcs hx h
 have HSS := Hi hs
 clear hs
 have q0 : (0 : Int) ≤ (s : Int) := by omega
 have q1 : (s : Int) < 16 := by omega
 go_enter Try.func94, Try.ntmps94
 go_wp2_with fail
 generalize hw1 : w.alloc (.cells cs 39) = w1 at *
 clear hw1
 obtain ⟨B, hB⟩ : ∃ B, B = w.heap.size := ⟨_, rfl⟩
 rw [← hB] at A0 ⊢
 clear hB
 have hS0 : ∀ (listed : Array Bool) (f : Nat → Value), (∀ i, listed.getD i false = false) → S78 w1 112 4 (partC (p s) (some (D s))).toArray listed f w1.drew := fun _ _ h0 => S78.start h0 (Below.refl w1.heap.size w1).drew
 obtain ⟨T, hT⟩ : ∃ T : List (Value → Prop), T = [(fun zz => zz = .pointer (some ⟨M, 0, none⟩)), (fun zz => zz = .pointer (some ⟨B, 1, none⟩)), (fun zz => zz = .int .i64 (s : Int)), (fun zz => zz = .pointer (some ⟨M, 0, none⟩)), (fun zz => zz = .pointer (some ⟨M, 2, none⟩)), (fun zz => zz = .pointer (some ⟨M, 2 + s * 4, none⟩)), (fun zz => zz = .agg (partC (p s) (some (D s))).toArray), (fun _ => True), (fun _ => True)] := ⟨_, rfl⟩
 refine wp_region_gen (JS T ([(8, 7)] : List (Nat × Nat)) (fun lz fz wq => S78 w1 112 4 (partC (p s) (some (D s))).toArray lz fz wq)) (by kernel_rfl) (by kernel_rfl) (by kernel_rfl) (fitB_spec (by kernel_rfl)) (fun listed f h => JS.start listed f h (hS0 listed f h)) ?_ ?_
 ·intro i o ho
  have hi : i < 9 := (Array.getElem?_eq_some_iff.1 ho).1
  have hi' : i = 0 ∨ i = 1 ∨ i = 2 ∨ i = 3 ∨ i = 4 ∨ i = 5 ∨ i = 6 ∨ i = 7 ∨ i = 8 := by omega
  clear hi
  rcases hi' with rfl | rfl | rfl | rfl | rfl | rfl | rfl | rfl | rfl
  all_goals (simp only [List.getElem?_toArray, List.getElem?_cons_zero, List.getElem?_cons_succ, Option.some.injEq] at ho; subst ho; intro listed f a w3 hJ hsz hls hun hdep hout hlat; first | (rw [if_pos (by rfl)]; intro K hK) | skip)
  ·have q0 := hout 0 ob
   exact wp_mw _ rfl q0 (hK _ _ (hJ.nx hls hT rfl rfl (S78.plain hJ.st (Ex.refl _) 0 (by decide)) nh))
  ·have q3 := hout 3 ob
   rw [gd9] at q3
   clear hsz hdep hout hlat
   go_simp
   exact hK _ _ (hJ.na hls hT (S78.plain hJ.st (Ex.refl _) 1 (by decide)))
  ·have q7 := hJ.iq hT (hdep ⟨1, .data⟩ (by simp) rfl) rfl _ rfl _ rfl
   have c1 : w3.cell? ⟨B, 1, none⟩ = some (.int .i64 (s : Int)) := by rw [← HSS.out]; exact (A0.out.ext hJ.st.ex).cells.2.1
   clear hsz hdep hout hlat
   go_simp
   exact hK _ _ (hJ.nx hls hT rfl rfl (S78.plain hJ.st (Ex.refl _) 2 (by decide)) nh)
  ·have q6 := hJ.iq hT (hdep ⟨0, .data⟩ (by simp) rfl) rfl _ rfl _ rfl
   clear hsz hdep hout hlat
   go_simp
   exact hK _ _ (hJ.na hls hT (S78.plain hJ.st (Ex.refl _) 3 (by decide)))
  ·have q9 := hJ.iq hT (hdep ⟨3, .data⟩ (by simp) rfl) rfl _ rfl _ rfl
   clear hsz hdep hout hlat
   go_simp
   exact hK _ _ (hJ.na hls hT (S78.plain hJ.st (Ex.refl _) 4 (by decide)))
  ·have q10 := hJ.iq hT (hdep ⟨4, .data⟩ (by simp) rfl) rfl _ rfl _ rfl
   have q8 := hJ.iq hT (hdep ⟨2, .data⟩ (by simp) rfl) rfl _ rfl _ rfl
   clear hsz hdep hout hlat
   go_simp
   exact hK _ _ (hJ.na hls hT (S78.plain hJ.st (Ex.refl _) 5 (by decide)))
  ·have q11 := hJ.is hT (hdep ⟨5, .data⟩ (by simp) rfl) rfl _ rfl _ rfl
   exact ld_spa _ s hs16 rfl q11 (HS.out.blk.ext hJ.st.ex) (hK _ _ (hJ.nx hls hT rfl rfl (S78.plain hJ.st (Ex.refl _) 6 (by decide)) nh))
  ·have h8 : listed.getD 8 false = false := by
    cases hc : listed.getD 8 false with
    | false => rfl
    | true => exact absurd (hJ.ord (8, 7) (by simp) hc) (by rw [hun]; decide)
   have hst := hJ.st
   clear hsz hdep hout hlat
   go_simp
   exact hK _ _ (hJ.nx hls hT rfl (by trivial) (S78.s7 hst h8 (Ex.alloc _ _) (z := (partC ⟨0, 0, 0⟩ none).toArray) rfl rfl (Bk.new rfl 112 _)) nh)
  have dd5 := hdep ⟨7, .data⟩ (by simp) rfl
  have q5 := dd5.2 _ rfl _ rfl
  have q12 := hJ.is hT (hdep ⟨6, .data⟩ (by simp) rfl) rfl _ rfl _ rfl
  have hl7 := (hdep ⟨7, .data⟩ (by simp) rfl).1
  have hord : ∀ x ∈ ([(8, 7)] : List (Nat × Nat)), x.1 = 8 → listed.getD x.2 false = true := (by intro x hx he; simp only [List.mem_cons, List.not_mem_nil, or_false] at hx; rcases hx with rfl; all_goals first | (exact absurd he (by decide)) | assumption)
  have hst := hJ.st
  have hl7 := (hdep ⟨7, .data⟩ (by simp) rfl).1
  obtain ⟨g, z, hg, hge, hz, hb⟩ := hst.e7 hl7 hun
  rw [hg] at q5
  exact st_pb _ _ g (p s) (some (D s)) rfl q5 q12 hb hz (fun w9 hd ho => hK _ _ (hJ.nx hls hT rfl (by trivial) (S78.s8 hst (by rw [hls]; decide) hl7 hg hge ho hd) hord))
 intro listed f w3 hall hJ
 have hst := hJ.st
 simp only [putAll, Act.put, List.setIfInBounds_toArray, List.set_cons_zero, List.set_cons_succ, Nat.zero_add, Nat.reduceAdd]
 obtain ⟨g, hg7, hge7, hb7⟩ := hst.e8 (hall 8 (by simp))
 rw [hg7]
 have HPB : Hid (PB9 w3 g (p s) (some (D s))) := Hi hb7
 have XR : Hid (Ex w1 w3) := Hi hst.ex
 clear hst hS0 hg7 hge7 hb7
 clear hJ hall hT
 replace A0 := Hi (A0.out.ext XR.out)
 replace HS := Hi (HS.out.ext XR.out)
 replace B0 := Hi (Ex.trans B0.out XR.out)
 clear XR
 have CA := allof_any (s : Int) x.ad x.cap x.l HX.out.cap w3 (HX.out.inn.ext B0.out) (fun i y hy => (HX.out.ins i y hy).ext B0.out)
 obtain ⟨n, hn⟩ : ∃ n, n = x.l.length := ⟨_, rfl⟩
 have c1 : w3.cell? ⟨B, 1, none⟩ = some (.int .i64 (s : Int)) := by rw [← HSS.out]; exact A0.out.cells.2.1
 have c46 := A0.out.cells.2.2.2.2
 rw [← hn] at c46 CA
 have CA2 := Hi CA
 clear hn CA
 go_wp2_with fail
 refine CA2.out.mono ?_
 rintro e w4 ⟨b, rfl, hb, x4⟩
 have HBA := Hi hb
 replace A0 := Hi (A0.out.ext x4)
 replace HS := Hi (HS.out.ext x4)
 replace B0 := Hi (Ex.trans B0.out x4)
 replace HPB := Hi (HPB.out.ext x4)
 clear hb x4 CA2 c1 c46
 cases b
 ·have HEV : Hid (E1 = 1) := Hi (HE2.out (fun h => by have := HBA.out.2 h; cases this))
  go_wp2_with fail
  go_ret
  exact ⟨congrArg (fun z : Int => Ending.returned (.int .i64 z)) HEV.out.symm, B0.out⟩
 have HEV := Hi (HE1.out (HBA.out.1 rfl))
 clear HBA HE1 HE2
 obtain ⟨pr, hpr⟩ : ∃ q, q = p s := ⟨_, rfl⟩
 rw [← hpr] at HPB HEV
 clear hpr
 obtain ⟨d0, d1, _, _⟩ := HPB.out.cells
 have c3 := A0.out.cells.2.2.2.1
 by_cases h1 : pr.role = 1
 ·go_wp2_with fail
  go_ret
  exact ⟨congrArg (fun z : Int => Ending.returned (.int .i64 z)) (show (26 : Int) = E1 from by rw [HEV.out]; unfold inE; rw [if_pos h1]), B0.out⟩
 by_cases h2 : x.ep ≤ pr.ep
 ·go_wp2_with fail
  go_ret
  exact ⟨congrArg (fun z : Int => Ending.returned (.int .i64 z)) (show (31 : Int) = E1 from by rw [HEV.out]; unfold inE; rw [if_neg h1, if_pos h2]), B0.out⟩
 have h3 : ¬ x.ep ≤ pr.ep := h2
 go_wp2_with fail
 go_ret
 exact ⟨congrArg (fun z : Int => Ending.returned (.int .i64 z)) (show (0 : Int) = E1 from by rw [HEV.out]; unfold inE; rw [if_neg h1, if_neg (by omega)]), B0.out⟩
theorem check_in (B9 M : Nat) (m n : Int) (p : Nat → Pa) (D : Nat → Nat) (r : Nat → Value) (v : Nat → List Vt) (x : Rk) (hk : x.kind = 3) (E1 : Int) (hE1 : AllOf x.l (x.shard.toNat : Int) → E1 = inE (p x.shard.toNat) x.ep) (hE2 : ¬ AllOf x.l (x.shard.toNat : Int) → E1 = 1) (w : World) (hx : x.In w) (h : SS w B9 M m n p D r v) : Calls Try.prog 54 #[.pointer (some ⟨M, 0, none⟩), x.V] w (SCPost x.inR E1 w) := by
 have HE1 := Hi hE1
 have HE2 := Hi hE2
 clear hE1 hE2
 obtain ⟨cs, hcs⟩ : ∃ cs, cs = x.C.toArray := ⟨_, rfl⟩
 have A0 : Hid (KB9 (w.alloc (.cells cs 39)) w.heap.size x) := Hi ⟨hx.v.ok, by rw [hcs]; exact Bk.new rfl _ _⟩
 have B0 : Hid (Ex w (w.alloc (.cells cs 39))) := Hi (Ex.alloc _ _)
 have HS := Hi (h.ext B0.out)
 rw [show (Calls Try.prog 54 #[.pointer (some ⟨M, 0, none⟩), x.V] w) = (Calls Try.prog 54 #[.pointer (some ⟨M, 0, none⟩), .agg cs] w) by rw [hcs]; rfl]
 have HX := Hi hx
 clear hcs hx h
 have HK := Hi hk
 go_enter Try.func54, Try.ntmps54
 go_wp2_with (first | ((with_reducible refine so0 ?_ ?_); (focus rfl)) | ((with_reducible refine so4 [112, 1000 + 112, 32, 39] ?_ ?_); (focus rfl)))
 (with_reducible refine ⟨?_⟩)
 change wpList _ _ _ _ _ (w.alloc (.cells cs 39))
 generalize hw1 : w.alloc (.cells cs 39) = w1 at *
 clear hw1
 obtain ⟨B, hB⟩ : ∃ B, B = w.heap.size := ⟨_, rfl⟩
 rw [← hB] at A0 ⊢
 have HB := Hi hB
 clear hB
 (with_reducible refine at_any ?_ ?_); (focus go_simp); refine fun K0 hK => ld_rk _ B x rfl rfl A0.out (hK _ _ ?_)
 clear hK
 go_wp2_with fail
 refine (rrec_in x HK.out w1 (HX.out.ext B0.out)).mono ?_
 rintro e w2 ⟨b9, rfl, hb, x2⟩
 replace A0 := Hi (A0.out.ext x2)
 replace HS := Hi (HS.out.ext x2)
 replace B0 := Hi (Ex.trans B0.out x2)
 have HBR := Hi hb
 clear hb x2
 have c0 : w2.cell? ⟨B, 0, none⟩ = some (.int .i64 3) := by rw [← HK.out]; exact A0.out.cells.1
 cases b9
 ·skip
  go_wp2_with fail
  go_ret
  exact ⟨1, rfl, fun h => absurd (HBR.out.2 h) (by simp), fun _ => rfl, B0.out⟩
 have HOR : Hid x.inR := Hi (HBR.out.1 (by simp))
 have hsh : x.shard = ((x.shard.toNat : Nat) : Int) := by have := HOR.out.1.1; omega
 have hs16 : x.shard.toNat < 16 := by have := HOR.out.1.2.1; omega
 go_wp2_with (first | ((with_reducible refine so0 ?_ ?_); (focus rfl)) | ((with_reducible refine so4 [112, 1000 + 112, 32, 39] ?_ ?_); (focus rfl)))
 refine at9 (by go_simp) fun K0 hK => ld_rk _ B x rfl rfl A0.out (hK _ _ ?_)
 clear hK
 go_wp2_with fail
 refine (cin_any B9 M m n p D r v x x.shard.toNat hsh hs16 E1 HE1.out HE2.out w2 (HX.out.ext B0.out) HS.out).mono ?_
 rintro e w3 ⟨rfl, x3⟩
 replace B0 := Hi (Ex.trans B0.out x3)
 clear x3 hsh hs16
 go_wp2_with fail
 go_ret
 exact ⟨E1, rfl, fun _ => rfl, fun h => absurd HOR.out h, B0.out⟩
end Go.Proofs.Ytmjfnpmnhehnkaa
