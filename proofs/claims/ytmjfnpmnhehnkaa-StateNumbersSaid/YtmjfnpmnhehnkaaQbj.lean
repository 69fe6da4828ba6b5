/- Rh -/
import Derived.Test.YtmjfnpmnhehnkaaQbi
set_option maxRecDepth 100000
set_option maxHeartbeats 16000000
namespace Go.Proofs.Ytmjfnpmnhehnkaa
open Go.RowKit
structure Aw where
 kind : Int
 role : Int
 tw : Int
 ep : Int
 r : Rr
 raw : Rk
def Aw.C (x : Aw) : List Value := [.int .i64 x.kind, .int .i64 x.role, .int .i64 x.tw, .int .u64 x.ep] ++ x.r.C ++ x.raw.C
def Aw.V (x : Aw) : Value := .agg x.C.toArray
structure Aw.In (x : Aw) (w : World) : Prop where
 kind : i64 x.kind
 role : i64 x.role
 tw : i64 x.tw
 ep : 0 ≤ x.ep ∧ x.ep < 18446744073709551616
 r : x.r.In w
 raw : x.raw.In w
theorem Aw.In.ext {x : Aw} {w w' : World} (h : x.In w) (k : Ex w w') : x.In w' := { h with r := h.r.ext k, raw := h.raw.ext k }
theorem Aw.len {x : Aw} (h : x.raw.v.Ok) : x.C.length = 64 := by unfold Aw.C; rw [List.length_append, List.length_append, Rk.len h, Rr.len]; rfl
theorem Aw.r_at {x : Aw} : (x.C.drop 4).take x.r.C.length = x.r.C := by
 show (x.r.C ++ x.raw.C).take x.r.C.length = x.r.C
 rw [List.take_left']; rfl
theorem Aw.raw_at {x : Aw} : (x.C.drop 17).take x.raw.C.length = x.raw.C := by
 show (([Value.int .i64 x.kind, .int .i64 x.role, .int .i64 x.tw, .int .u64 x.ep] ++ x.r.C ++ x.raw.C).drop 17).take x.raw.C.length = x.raw.C
 rw [List.drop_left' (by rw [List.length_append, Rr.len]; rfl), List.take_length]
theorem Aw.C_one (x : Aw) : ∀ u ∈ x.C, u.oneCell' = true := by
 intro u hu
 unfold Aw.C at hu
 rcases List.mem_append.1 hu with hu | hu
 ·rcases List.mem_append.1 hu with hu | hu
  ·simp only [List.mem_cons, List.not_mem_nil, or_false] at hu
   rcases hu with rfl | rfl | rfl | rfl <;> rfl
  unfold Rr.C Kv.C at hu
  simp only [List.mem_cons, List.not_mem_nil, or_false, List.cons_append, List.nil_append] at hu
  rcases hu with rfl | rfl | rfl | rfl | rfl | rfl | rfl | rfl | rfl | rfl | rfl | rfl | rfl <;> rfl
 exact Rk.C_one x.raw u hu
def AwB (w : World) (g : Nat) (x : Aw) : Prop := x.raw.v.Ok ∧ Bk w g 41 x.C.toArray
theorem AwB.ext {w w' : World} {g : Nat} {x : Aw} (h : AwB w g x) (k : Ex w w') : AwB w' g x := ⟨h.1, h.2.ext k⟩
theorem AwB.cells {w : World} {g : Nat} {x : Aw} (h : AwB w g x) : w.cell? ⟨g, 0, none⟩ = some (.int .i64 x.kind) ∧ w.cell? ⟨g, 1, none⟩ = some (.int .i64 x.role) ∧ w.cell? ⟨g, 2, none⟩ = some (.int .i64 x.tw) ∧ w.cell? ⟨g, 3, none⟩ = some (.int .u64 x.ep) ∧ w.cell? ⟨g, 5, none⟩ = some (.int .i64 x.r.shard) ∧ w.cell? ⟨g, 16, none⟩ = some (.slice x.r.ad x.r.l.length x.r.cap) :=
 ⟨(h.2.cell 0).trans rfl, (h.2.cell 1).trans rfl, (h.2.cell 2).trans rfl, (h.2.cell 3).trans rfl, (h.2.cell 5).trans rfl, (h.2.cell 16).trans rfl⟩
section
variable {o : Oper} {a : Act} {w : World} {K : Act → World → Prop} {Q : Exit → Act → World → Prop}
theorem ld_awr (x : Operand) (g : Nat) (v : Aw) (ho : o.op = .load 30 x) (ha : a.eval x = .pointer (some ⟨g, 4, none⟩)) (h : AwB w g v) (hk : K (a.put o.dst v.r.V) w) : o.wp Try.prog a w K Q := by
 obtain ⟨dd, hd⟩ : ∃ d, Try.prog.underlying 30 = some d ∧ d.isRow = true := ⟨_, Try.underlying30, rfl⟩
 exact wp_ldp (C := v.C) v.r.C x g 4 dd ho ha h.2 Aw.r_at hd.1 hd.2 (by rw [show (Try.prog.info? 30).map (·.size) = some 13 by kernel_rfl]; rfl) hk
theorem ld_awraw (x : Operand) (g : Nat) (v : Aw) (ho : o.op = .load 39 x) (ha : a.eval x = .pointer (some ⟨g, 17, none⟩)) (h : AwB w g v) (hk : K (a.put o.dst v.raw.V) w) : o.wp Try.prog a w K Q := by
 obtain ⟨dd, hd⟩ : ∃ d, Try.prog.underlying 39 = some d ∧ d.isRow = true := ⟨_, Try.underlying39, rfl⟩
 exact wp_ldp (C := v.C) v.raw.C x g 17 dd ho ha h.2 Aw.raw_at hd.1 hd.2 (by rw [Try.sizeRk, Rk.len h.1]) hk
end
theorem wrapu_in (n : Int) : 0 ≤ IntKind.u64.wrap n ∧ IntKind.u64.wrap n < 18446744073709551616 := by
 rw [show IntKind.u64.wrap n = n % 18446744073709551616 from by simp [IntKind.wrap, IntKind.bits, IntKind.signed]]
 omega
theorem RkM.kt {S : List Nat} {B B' : Nat} {w w' : World} {x : Rk} (h : RkM w B x) (k : Kt S B' w w') (h1 : 36 ∉ S) (h2 : 5 ∉ S) (e : Int) (he : 0 ≤ e ∧ e < 18446744073709551616) : RkM w' B { x with ep := e } :=
 rkm_of h.inn.kind h.inn.shard h.inn.tw he (h.v.kt k h2) ⟨k.row h.row.row h1, fun i z hz => (h.row.ins i z hz).kt k h2⟩ h.sh
theorem KB9.set_ep {w : World} {g : Nat} {x : Rk} {e : Int} (hv : x.v.Ok) (h : Bk w g 39 (x.C.set 3 (.int .u64 e)).toArray) : KB9 w g { x with ep := e } := ⟨hv, h⟩
theorem tmod_b (a n : Int) (h : 0 < n) : -n < a.tmod n ∧ a.tmod n < n := by
 have h1 := Int.tmod_lt_of_pos a h
 refine ⟨?_, h1⟩
 by_cases h0 : 0 ≤ a
 ·have := Int.tmod_nonneg n h0; omega
 have h2 := Int.tmod_lt_of_pos (-a) h
 rw [Int.neg_tmod] at h2; omega
def RcdPost (w : World) (raw : Rk) (e : Ending) (w' : World) : Prop := ∃ y : Rk, e = .returned y.V ∧ (y = raw ∨ RkM w' w.heap.size y) ∧ Ex w w'
theorem record_any (w0 : World) (M : Nat) (m n : Int) (p : Nat → Pa) (R : Nat → Value) (xs : Nat → List Vt) (x : Aw) (w : World) (hx : x.In w) (h : RS w0 w M m n p R xs) : Calls Try.prog 23 #[x.V, .pointer (some ⟨M, 0, none⟩)] w (RcdPost w x.raw) := by
 obtain ⟨cs, hcs⟩ : ∃ cs, cs = x.C.toArray := ⟨_, rfl⟩
 have A0 : Hid (AwB ((w.alloc (.cells cs 41)).alloc (.cells zeroRk.C.toArray 39)) w.heap.size x) := Hi ⟨hx.raw.v.ok, by rw [hcs]; exact (Bk.new rfl _ _).more _⟩
 have Z0 : Hid (KB9 ((w.alloc (.cells cs 41)).alloc (.cells zeroRk.C.toArray 39)) (w.heap.size + 1) zeroRk) := Hi ⟨zeroVt_ok, Bk.new (by simp) _ _⟩
 have BW : Hid (Ex w ((w.alloc (.cells cs 41)).alloc (.cells zeroRk.C.toArray 39))) := Hi (Ex.trans (Ex.alloc w _) (Ex.alloc _ _))
 rw [show (Calls Try.prog 23 #[x.V, .pointer (some ⟨M, 0, none⟩)] w) = (Calls Try.prog 23 #[.agg cs, .pointer (some ⟨M, 0, none⟩)] w) by rw [hcs]; rfl]
 have HX := Hi hx
 have HP := Hi h
 have m0 := tmod_b x.tw 16 (by decide)
 have m1 := tmod_b x.role 4 (by decide)
 clear hcs hx h
 go_enter Try.func23, Try.ntmps23
 go_wp2_with ((with_reducible refine so4 [3] ?_ ?_); (focus rfl))
 (with_reducible refine ⟨?_⟩)
 change wpList _ _ _ _ _ ((w.alloc (.cells cs 41)).alloc (.cells zeroRk.C.toArray 39))
 generalize hw1 : ((w.alloc (.cells cs 41)).alloc (.cells zeroRk.C.toArray 39)) = w1 at *
 clear hw1
 obtain ⟨B, hB⟩ : ∃ B, B = w.heap.size := ⟨_, rfl⟩
 rw [← hB] at A0 Z0 ⊢
 have HB := Hi hB
 clear hB
 obtain ⟨k0, k1, k2, k3, _, _⟩ := A0.out.cells
 by_cases h15 : x.tw.tmod 16 = 15
 ·skip
  go_wp2_with (first | ((with_reducible refine so0 ?_ ?_); (focus rfl)) | ((with_reducible refine so4 [39, 1000 + 39, 30, 1000 + 30, 41] ?_ ?_); (focus rfl)))
  refine at9 (by go_simp) fun K0 hK => ld_awraw _ B x rfl rfl A0.out (hK _ _ ?_)
  clear hK
  go_wp2_with (first | ((with_reducible refine so0 ?_ ?_); (focus rfl)) | ((with_reducible refine so4 [39, 1000 + 39, 30, 1000 + 30, 41] ?_ ?_); (focus rfl)))
  refine at9 (by go_simp) fun K0 hK => st_rk _ _ (B + 1) (x.raw) rfl rfl rfl A0.out.1 Z0.out.2 (by rw [List.size_toArray, Rk.len Z0.out.1]) (fun w9 hd ho => hK _ _ ?_)
  clear hK
  have HD := Hi hd
  have BX := Hi (ho.below w.heap.size (by rw [← HB.out]; omega) w BW.out)
  have HKT := Hi (Kt.md (S := [39]) (B := 0) ho.md (Nat.zero_le _) Z0.out.2 (List.mem_singleton.2 rfl))
  clear hd ho
  go_wp2_with fail
  exact bodyPost_ret (res_rk rfl _ _ (B + 1) rfl (x.raw) HD.out) rfl ⟨x.raw, rfl, Or.inl rfl, BX.out⟩
 skip
 go_wp2_with (first | ((with_reducible refine so0 ?_ ?_); (focus rfl)) | ((with_reducible refine so4 [39, 1000 + 39, 30, 1000 + 30, 41] ?_ ?_); (focus rfl)))
 refine at9 (by go_simp) fun K0 hK => ld_awr _ B x rfl rfl A0.out (hK _ _ ?_)
 clear hK
 go_wp2_with fail
 refine (krec_any x.r w1 (HX.out.r.ext BW.out)).mono ?_
 rintro e w2 ⟨y, rfl, hm, x2⟩
 have HM := Hi (hm.less BW.out.sz')
 have B2 := Hi (Ex.trans BW.out x2)
 have Z2 := Hi (Z0.out.ext x2)
 have A2 := Hi (A0.out.ext x2)
 have HGL := Hi (show B + 1 < w2.heap.size from Z2.out.2.lt)
 clear hm x2 k0 k1 k2 k3
 go_wp2_with (first | ((with_reducible refine so0 ?_ ?_); (focus rfl)) | ((with_reducible refine so4 [39, 1000 + 39, 30, 1000 + 30, 41] ?_ ?_); (focus rfl)))
 refine at9 (by go_simp) fun K0 hK => st_rk _ _ w2.heap.size y rfl rfl rfl HM.out.v.ok (Bk.new rfl _ _) (by rfl) (fun w3 hd ho => hK _ _ ?_)
 clear hK
 have x3 : Ex w2 w3 := ho.below w2.heap.size (Nat.le_refl _) w2 (Ex.alloc w2 _)
 obtain ⟨g, hg⟩ : ∃ g, g = w2.heap.size := ⟨_, rfl⟩
 rw [← hg] at hd ⊢
 have HGB : Hid (B + 1 < g) := Hi (by rw [hg]; exact HGL.out)
 have HG := Hi hd
 have HM3 := Hi (HM.out.ext x3)
 have B3 := Hi (Ex.trans B2.out x3)
 have Z3 := Hi (Z2.out.ext x3)
 have A3 := Hi (A2.out.ext x3)
 clear hd ho hg x3 HM Z2 A2 HGL
 have c0 := HG.out.cells.1
 have c9 := A3.out.cells.2.1
 by_cases hk1 : y.kind = 1
 ·rw [hk1] at c0
  go_wp2_with (first | ((with_reducible refine so0 ?_ ?_); (focus rfl)) | ((with_reducible refine so4 [39, 1000 + 39, 30, 1000 + 30, 41] ?_ ?_); (focus rfl)))
  refine at9 (by go_simp) fun K0 hK => ld_rk _ g y rfl rfl HG.out (hK _ _ ?_)
  clear hK
  go_wp2_with (first | ((with_reducible refine so0 ?_ ?_); (focus rfl)) | ((with_reducible refine so4 [39, 1000 + 39, 30, 1000 + 30, 41] ?_ ?_); (focus rfl)))
  refine at9 (by go_simp) fun K0 hK => st_rk _ _ (B + 1) (y) rfl rfl rfl HM3.out.v.ok Z3.out.2 (by rw [List.size_toArray, Rk.len Z3.out.1]) (fun w9 hd ho => hK _ _ ?_)
  clear hK
  have HD := Hi hd
  have BX := Hi (ho.below w.heap.size (by rw [← HB.out]; omega) w B3.out)
  have HKT := Hi (Kt.md (S := [39]) (B := 0) ho.md (Nat.zero_le _) Z3.out.2 (List.mem_singleton.2 rfl))
  clear hd ho
  go_wp2_with fail
  exact bodyPost_ret (res_rk rfl _ _ (B + 1) rfl (y) HD.out) rfl ⟨y, rfl, Or.inr (by have h9 := HM3.out.kt HKT.out (by decide) (by decide) y.ep HM3.out.inn.ep; exact h9), BX.out⟩
 have HSH : Hid (0 ≤ y.shard ∧ y.shard < 16) := Hi (HM3.out.sh.resolve_left hk1)
 by_cases hr3 : x.role.tmod 4 = 3
 ·have e1 : (y.kind != 1) = true := by simpa using hk1
  have e2 : (x.role.tmod 4 != 3) = false := by simpa using hr3
  go_wp2_with (first | ((with_reducible refine so0 ?_ ?_); (focus rfl)) | ((with_reducible refine so4 [39, 1000 + 39, 30, 1000 + 30, 41] ?_ ?_); (focus rfl)))
  refine at9 (by go_simp) fun K0 hK => ld_rk _ g y rfl rfl HG.out (hK _ _ ?_)
  clear hK
  go_wp2_with (first | ((with_reducible refine so0 ?_ ?_); (focus rfl)) | ((with_reducible refine so4 [39, 1000 + 39, 30, 1000 + 30, 41] ?_ ?_); (focus rfl)))
  refine at9 (by go_simp) fun K0 hK => st_rk _ _ (B + 1) (y) rfl rfl rfl HM3.out.v.ok Z3.out.2 (by rw [List.size_toArray, Rk.len Z3.out.1]) (fun w9 hd ho => hK _ _ ?_)
  clear hK
  have HD := Hi hd
  have BX := Hi (ho.below w.heap.size (by rw [← HB.out]; omega) w B3.out)
  have HKT := Hi (Kt.md (S := [39]) (B := 0) ho.md (Nat.zero_le _) Z3.out.2 (List.mem_singleton.2 rfl))
  clear hd ho
  go_wp2_with fail
  exact bodyPost_ret (res_rk rfl _ _ (B + 1) rfl (y) HD.out) rfl ⟨y, rfl, Or.inr (by have h9 := HM3.out.kt HKT.out (by decide) (by decide) y.ep HM3.out.inn.ep; exact h9), BX.out⟩
 skip
 have e1 : (y.kind != 1) = true := by simpa using hk1
 have e2 : (x.role.tmod 4 != 3) = true := by simpa using hr3
 obtain ⟨s, hs⟩ : ∃ s : Nat, y.shard = (s : Int) := ⟨y.shard.toNat, by have := HSH.out; omega⟩
 have hs16 : s < 16 := by have := HSH.out; omega
 have qs0 : (0 : Int) ≤ (s : Int) := by omega
 have qs1 : (s : Int) < 16 := by omega
 have HSS := Hi hs
 obtain ⟨pe, hpe⟩ : ∃ e, e = (p s).ep := ⟨_, rfl⟩
 have HPE := Hi hpe
 have HPEN : Hid (0 ≤ pe ∧ pe < 18446744073709551616) := Hi (by rw [hpe]; exact (HP.out.ok s hs16).ep)
 clear hs hpe
 skip
 go_wp2_with fail
 clear c0 c9 m0 m1 hr3 e1 e2
 obtain ⟨T, hT⟩ : ∃ T : List Sx, T = [.is (.pointer (some ⟨M, 0, none⟩)), .is (.pointer (some ⟨g, 1, none⟩)), .is (.int .i64 s), .is (.pointer (some ⟨M, 0, none⟩)), .is (.pointer (some ⟨M, 2, none⟩)), .is (.pointer (some ⟨M, 2 + s * 4, none⟩)), .is (.pointer (some ⟨M, 2 + s * 4 + 1, none⟩)), .is (.int .u64 pe), .is (.pointer (some ⟨B, 1, none⟩)), .is (.int .i64 x.role), .of (fun v _ => ∃ z : Int, v = .int .i64 z) (fun v _ _ h _ => h), .of (fun v _ => ∃ z : Int, v = .int .u64 z ∧ (0 ≤ z ∧ z < 18446744073709551616)) (fun v _ _ h _ => h), .of (fun v _ => ∃ z : Int, v = .int .u64 z ∧ (0 ≤ z ∧ z < 18446744073709551616)) (fun v _ _ h _ => h), .is (.pointer (some ⟨g, 3, none⟩)), .any] := ⟨_, rfl⟩
 have HFX : T.map Sx.fixed = [true, true, true, true, true, true, true, true, true, true, false, false, false, true, true] := by rw [hT]; rfl
 have hFst : ∀ wa wb, (fun w9 => ∃ y2 : Rk, KB9 w9 g y2 ∧ RkM w9 w.heap.size y2 ∧ y2.kind = y.kind ∧ y2.shard = y.shard ∧ KB9 w9 (B + 1) zeroRk ∧ Ex w w9) wa → Ex wa wb → (fun w9 => ∃ y2 : Rk, KB9 w9 g y2 ∧ RkM w9 w.heap.size y2 ∧ y2.kind = y.kind ∧ y2.shard = y.shard ∧ KB9 w9 (B + 1) zeroRk ∧ Ex w w9) wb := fun _ _ h k9 => by obtain ⟨y2, h1, h2, h3, h4, h5, h6⟩ := h; exact ⟨y2, h1.ext k9, h2.ext k9, h3, h4, h5.ext k9, Ex.trans h6 k9⟩
 refine wp_region_gen (JE w3 T ([none, none, none, none, none, none, none, none, none, none, some 11, some 12, some 14, none, none] : List (Option Nat)) ([(14, 2), (14, 7), (14, 9)] : List (Nat × Nat)) 14 14 (fun w9 => ∃ y2 : Rk, KB9 w9 g y2 ∧ RkM w9 w.heap.size y2 ∧ y2.kind = y.kind ∧ y2.shard = y.shard ∧ KB9 w9 (B + 1) zeroRk ∧ Ex w w9)) (by kernel_rfl) (by kernel_rfl) (by kernel_rfl) (fitB_spec (by kernel_rfl)) (fun listed f h => JE.start listed f h) ?_ ?_
 ·intro i o ho
  have hi : i < 15 := (Array.getElem?_eq_some_iff.1 ho).1
  have hi' : i = 0 ∨ i = 1 ∨ i = 2 ∨ i = 3 ∨ i = 4 ∨ i = 5 ∨ i = 6 ∨ i = 7 ∨ i = 8 ∨ i = 9 ∨ i = 10 ∨ i = 11 ∨ i = 12 ∨ i = 13 ∨ i = 14 := by omega
  clear hi
  rcases hi' with rfl | rfl | rfl | rfl | rfl | rfl | rfl | rfl | rfl | rfl | rfl | rfl | rfl | rfl | rfl
  all_goals (simp only [List.getElem?_toArray, List.getElem?_cons_zero, List.getElem?_cons_succ, Option.some.injEq] at ho; subst ho; intro listed f a w6 hJ hsz hls hun hdep hout hlat; first | (rw [if_pos (by rfl)]; intro K hK) | skip)
  ·have q1 := hout 1 ob
   exact wp_mw _ rfl q1 (hK _ _ (hJ.plain (by rw [hls]; decide) hFst (by decide) (Ex.refl _) (by rw [hT]; rfl) nh))
  ·have q5 := hout 5 ob
   rw [gd9] at q5
   clear hsz hdep hout hlat
   go_simp
   exact hK _ _ (hJ.plain (by rw [hls]; decide) hFst (by decide) (Ex.refl _) (by rw [hT]; first | rfl | exact congrArg (Value.int .i64) (by omega) | exact congrArg (Value.int .i64) (by rw [IntKind.wrap_i64]; omega)) nh)
  ·have q25 := hJ.iw hT (hdep ⟨1, .data⟩ (by simp) rfl) rfl rfl _ rfl _ rfl
   have hcut : listed.getD 14 false = false := by
    cases hc : listed.getD 14 false with
    | false => rfl
    | true =>
     have hc0 := hJ.ord (14, 2) (by simp) hc
     exact absurd hc0 (by rw [hun]; decide)
   have hpre := hJ.pre hcut
   have c1 := (show w6.cell? ⟨g, 1, none⟩ = some (.int .i64 (s : Int)) from by rw [← HSS.out]; exact ((HG.out).ext hpre).cells.2.1)
   rw [gd9] at q25
   clear hsz hdep hout hlat
   go_simp
   exact hK _ _ (hJ.plain (by rw [hls]; decide) hFst (by decide) (Ex.refl _) (by rw [hT]; rfl) nh)
  ·have q24 := hJ.iv hT (hdep ⟨0, .data⟩ (by simp) rfl) rfl rfl _ rfl _ rfl
   clear hsz hdep hout hlat
   go_simp
   exact hK _ _ (hJ.plain (by rw [hls]; decide) hFst (by decide) (Ex.refl _) (by rw [hT]; first | rfl | exact congrArg (Value.int .i64) (by omega) | exact congrArg (Value.int .i64) (by rw [IntKind.wrap_i64]; omega)) nh)
  ·have q27 := hJ.iv hT (hdep ⟨3, .data⟩ (by simp) rfl) rfl rfl _ rfl _ rfl
   clear hsz hdep hout hlat
   go_simp
   exact hK _ _ (hJ.plain (by rw [hls]; decide) hFst (by decide) (Ex.refl _) (by rw [hT]; first | rfl | exact congrArg (Value.int .i64) (by omega) | exact congrArg (Value.int .i64) (by rw [IntKind.wrap_i64]; omega)) nh)
  ·have q28 := hJ.iv hT (hdep ⟨4, .data⟩ (by simp) rfl) rfl rfl _ rfl _ rfl
   have q26 := hJ.iv hT (hdep ⟨2, .data⟩ (by simp) rfl) rfl rfl _ rfl _ rfl
   clear hsz hdep hout hlat
   go_simp
   exact hK _ _ (hJ.plain (by rw [hls]; decide) hFst (by decide) (Ex.refl _) (by rw [hT]; first | rfl | exact congrArg (Value.int .i64) (by omega) | exact congrArg (Value.int .i64) (by rw [IntKind.wrap_i64]; omega)) nh)
  ·have q29 := hJ.iv hT (hdep ⟨5, .data⟩ (by simp) rfl) rfl rfl _ rfl _ rfl
   clear hsz hdep hout hlat
   go_simp
   exact hK _ _ (hJ.plain (by rw [hls]; decide) hFst (by decide) (Ex.refl _) (by rw [hT]; first | rfl | exact congrArg (Value.int .i64) (by omega) | exact congrArg (Value.int .i64) (by rw [IntKind.wrap_i64]; omega)) nh)
  ·have q30 := hJ.iw hT (hdep ⟨6, .data⟩ (by simp) rfl) rfl rfl _ rfl _ rfl
   have hcut : listed.getD 14 false = false := by
    cases hc : listed.getD 14 false with
    | false => rfl
    | true =>
     have hc0 := hJ.ord (14, 7) (by simp) hc
     exact absurd hc0 (by rw [hun]; decide)
   have hpre := hJ.pre hcut
   have c1 := (show w6.cell? ⟨M, 2 + s * 4 + 1, none⟩ = some (.int .u64 pe) from by rw [HPE.out]; exact ((HP.out.ext (Ex.trans B3.out hpre)).cells hs16).2.1)
   rw [gd9] at q30
   clear hsz hdep hout hlat
   go_simp
   exact hK _ _ (hJ.plain (by rw [hls]; decide) hFst (by decide) (Ex.refl _) (by rw [hT]; rfl) nh)
  ·have q2 := hout 2 ob
   rw [gd9] at q2
   clear hsz hdep hout hlat
   go_simp
   exact hK _ _ (hJ.plain (by rw [hls]; decide) hFst (by decide) (Ex.refl _) (by rw [hT]; first | rfl | exact congrArg (Value.int .i64) (by omega) | exact congrArg (Value.int .i64) (by rw [IntKind.wrap_i64]; omega)) nh)
  ·have q32 := hJ.iw hT (hdep ⟨8, .data⟩ (by simp) rfl) rfl rfl _ rfl _ rfl
   have hcut : listed.getD 14 false = false := by
    cases hc : listed.getD 14 false with
    | false => rfl
    | true =>
     have hc0 := hJ.ord (14, 9) (by simp) hc
     exact absurd hc0 (by rw [hun]; decide)
   have hpre := hJ.pre hcut
   have c1 := (A3.out.ext hpre).cells.2.1
   rw [gd9] at q32
   clear hsz hdep hout hlat
   go_simp
   exact hK _ _ (hJ.plain (by rw [hls]; decide) hFst (by decide) (Ex.refl _) (by rw [hT]; rfl) nh)
  ·have q33 := hJ.iv hT (hdep ⟨9, .data⟩ (by simp) rfl) rfl rfl _ rfl _ rfl
   clear hsz hdep hout hlat
   go_simp
   exact hK _ _ (hJ.plain (by rw [hls]; decide) hFst (by decide) (Ex.refl _) (by rw [hT]; exact ⟨_, rfl⟩) nh)
  ·have dd34 := hdep ⟨10, .data⟩ (by simp) rfl
   have q34 := dd34.2 _ rfl _ rfl
   have h34 := hJ.vals 10 dd34.1 (fun c hc => by have hc : some 11 = some c := hc; cases hc; exact hun)
   rw [hT] at h34
   have h34 : (fun v _ => ∃ z : Int, v = .int .i64 z) (f 10) w6 := h34
   obtain ⟨z34, e34⟩ := h34
   rw [e34] at q34
   clear dd34
   rw [gd9] at q34
   clear hsz hdep hout hlat
   go_simp
   exact hK _ _ (hJ.plain (by rw [hls]; decide) hFst (by decide) (Ex.refl _) (by rw [hT]; exact ⟨_, rfl, wrapu_in _⟩) nh)
  ·have q31 := hJ.iw hT (hdep ⟨7, .data⟩ (by simp) rfl) rfl rfl _ rfl _ rfl
   have dd35 := hdep ⟨11, .data⟩ (by simp) rfl
   have q35 := dd35.2 _ rfl _ rfl
   have h35 := hJ.vals 11 dd35.1 (fun c hc => by have hc : some 12 = some c := hc; cases hc; exact hun)
   rw [hT] at h35
   have h35 : (fun v _ => ∃ z : Int, v = .int .u64 z ∧ (0 ≤ z ∧ z < 18446744073709551616)) (f 11) w6 := h35
   obtain ⟨z35, e35, n35⟩ := h35
   rw [e35] at q35
   clear dd35
   rw [gd9] at q31 q35
   clear hsz hdep hout hlat
   go_simp
   exact hK _ _ (hJ.plain (by rw [hls]; decide) hFst (by decide) (Ex.refl _) (by rw [hT]; exact ⟨_, rfl, wrapu_in _⟩) nh)
  ·have q5 := hout 5 ob
   rw [gd9] at q5
   clear hsz hdep hout hlat
   go_simp
   exact hK _ _ (hJ.plain (by rw [hls]; decide) hFst (by decide) (Ex.refl _) (by rw [hT]; first | rfl | exact congrArg (Value.int .i64) (by omega) | exact congrArg (Value.int .i64) (by rw [IntKind.wrap_i64]; omega)) nh)
  have q37 := hJ.iw hT (hdep ⟨13, .data⟩ (by simp) rfl) rfl rfl _ rfl _ rfl
  have dd36 := hdep ⟨12, .data⟩ (by simp) rfl
  have q36 := dd36.2 _ rfl _ rfl
  have h36 := hJ.vals 12 dd36.1 (fun c hc => by have hc : some 14 = some c := hc; cases hc; exact hun)
  rw [hT] at h36
  have h36 : (fun v _ => ∃ z : Int, v = .int .u64 z ∧ (0 ≤ z ∧ z < 18446744073709551616)) (f 12) w6 := h36
  obtain ⟨z36, e36, n36⟩ := h36
  rw [e36] at q36
  clear dd36
  have hl2 := (hdep ⟨2, .phase⟩ (by simp) rfl).1
  have hl7 := (hdep ⟨7, .phase⟩ (by simp) rfl).1
  have hl9 := (hdep ⟨9, .phase⟩ (by simp) rfl).1
  have hord : ∀ x ∈ ([(14, 2), (14, 7), (14, 9)] : List (Nat × Nat)), x.1 = 14 → listed.getD x.2 false = true := (by intro x hx he; simp only [List.mem_cons, List.not_mem_nil, or_false] at hx; rcases hx with rfl | rfl | rfl; all_goals first | (exact absurd he (by decide)) | assumption)
  have hcut := hun
  have hpre := hJ.pre hcut
  have hc1 : ∀ j, j ≠ 14 → ([true, true, true, true, true, true, true, true, true, true, false, false, false, true, true] : List Bool).getD j true = false → listed.getD j false = true → ∃ c, (([none, none, none, none, none, none, none, none, none, none, some 11, some 12, some 14, none, none] : List (Option Nat))).getD j none = some c ∧ (c = 14 ∨ listed.getD c false = true) := by
   intro j hj hfj hl
   have hm : j = 10 ∨ j = 11 ∨ j = 12 := by
    rcases Nat.lt_or_ge j 15 with h | h
    ·have hk : j = 0 ∨ j = 1 ∨ j = 2 ∨ j = 3 ∨ j = 4 ∨ j = 5 ∨ j = 6 ∨ j = 7 ∨ j = 8 ∨ j = 9 ∨ j = 10 ∨ j = 11 ∨ j = 12 ∨ j = 13 ∨ j = 14 := by omega
     rcases hk with rfl | rfl | rfl | rfl | rfl | rfl | rfl | rfl | rfl | rfl | rfl | rfl | rfl | rfl | rfl <;> first | (exact absurd hfj (by decide)) | simp
    ·rw [List.getD_eq_getElem?_getD, List.getElem?_eq_none (by simpa using h)] at hfj; cases hfj
   rcases hm with rfl | rfl | rfl
   ·exact ⟨11, rfl, Or.inr (hdep ⟨11, .phase⟩ (by simp) rfl).1⟩
   ·exact ⟨12, rfl, Or.inr (hdep ⟨12, .data⟩ (by simp) rfl).1⟩
   ·exact ⟨14, rfl, Or.inl rfl⟩
  refine wp_st1 (C := y.C) _ _ g 3 (.int .u64 z36) rfl q37 q36 ((HG.out).ext hpre).2 (by rw [Rk.len (HG.out).1]; decide) (by kernel_rfl) rfl (fun w5 hd ho => ?_)
  have kt : Kt [39] 0 w6 w5 := Kt.md ho.md (Nat.zero_le _) ((HG.out).ext hpre).2 (List.mem_singleton.2 rfl)
  have hfin : ∃ y2 : Rk, KB9 w5 g y2 ∧ RkM w5 w.heap.size y2 ∧ y2.kind = y.kind ∧ y2.shard = y.shard ∧ KB9 w5 (B + 1) zeroRk ∧ Ex w w5 := ⟨_, KB9.set_ep (HG.out).1 hd, ((HM3.out).ext hpre).kt kt (by decide) (by decide) z36 n36, rfl, rfl, ⟨(Z3.out).1, ho.bk ((Z3.out).ext hpre).2 (by have := HGB.out; omega)⟩, ho.below w.heap.size (by have := HGB.out; have := HB.out; omega) w (Ex.trans B3.out hpre)⟩
  exact hK _ _ (hJ.mod (by rw [hls]; decide) HFX (by rw [hT]; exact trivial) hc1 (Or.inl rfl) (fun _ => hfin) hord)
 intro listed f w6 hall hJ
 have xf : (fun w9 => ∃ y2 : Rk, KB9 w9 g y2 ∧ RkM w9 w.heap.size y2 ∧ y2.kind = y.kind ∧ y2.shard = y.shard ∧ KB9 w9 (B + 1) zeroRk ∧ Ex w w9) w6 := hJ.fin (hall 14 (by simp))
 simp only [putAll, Act.put, List.setIfInBounds_toArray, List.set_cons_zero, List.set_cons_succ, Nat.zero_add, Nat.reduceAdd]
 clear hJ hall hT HFX hFst
 obtain ⟨y2, h1, h2, h3, h4, h5, h6⟩ := xf
 have G6 := Hi h1
 have M6 := Hi h2
 have Z6 := Hi h5
 have B6 := Hi h6
 rw [HSS.out] at h4
 replace HSS := Hi h4
 rw [← h3] at hk1
 have HK1 := Hi hk1
 clear h1 h2 h3 h4 h5 h6 hk1 HG HM3 Z3 A3 B3
 have c0 := G6.out.cells.1
 by_cases hk4 : y2.kind = 4
 rotate_left
 ·skip
  go_wp2_with (first | ((with_reducible refine so0 ?_ ?_); (focus rfl)) | ((with_reducible refine so4 [39, 1000 + 39, 30, 1000 + 30, 41] ?_ ?_); (focus rfl)))
  refine at9 (by go_simp) fun K0 hK => ld_rk _ g y2 rfl rfl G6.out (hK _ _ ?_)
  clear hK
  go_wp2_with (first | ((with_reducible refine so0 ?_ ?_); (focus rfl)) | ((with_reducible refine so4 [39, 1000 + 39, 30, 1000 + 30, 41] ?_ ?_); (focus rfl)))
  refine at9 (by go_simp) fun K0 hK => st_rk _ _ (B + 1) (y2) rfl rfl rfl M6.out.v.ok Z6.out.2 (by rw [List.size_toArray, Rk.len Z6.out.1]) (fun w9 hd ho => hK _ _ ?_)
  clear hK
  have HD := Hi hd
  have BX := Hi (ho.below w.heap.size (by rw [← HB.out]; omega) w B6.out)
  have HKT := Hi (Kt.md (S := [39]) (B := 0) ho.md (Nat.zero_le _) Z6.out.2 (List.mem_singleton.2 rfl))
  clear hd ho
  go_wp2_with fail
  exact bodyPost_ret (res_rk rfl _ _ (B + 1) rfl (y2) HD.out) rfl ⟨y2, rfl, Or.inr (by have h9 := M6.out.kt HKT.out (by decide) (by decide) y2.ep M6.out.inn.ep; exact h9), BX.out⟩
 skip
 rw [hk4] at c0
 go_wp2_with fail
 clear c0
 obtain ⟨T, hT⟩ : ∃ T : List Sx, T = [.is (.pointer (some ⟨M, 0, none⟩)), .is (.pointer (some ⟨g, 1, none⟩)), .is (.int .i64 s), .is (.pointer (some ⟨M, 0, none⟩)), .is (.pointer (some ⟨M, 2, none⟩)), .is (.pointer (some ⟨M, 2 + s * 4, none⟩)), .is (.pointer (some ⟨M, 2 + s * 4 + 1, none⟩)), .is (.int .u64 pe), .is (.pointer (some ⟨g, 3, none⟩)), .any] := ⟨_, rfl⟩
 have HFX : T.map Sx.fixed = [true, true, true, true, true, true, true, true, true, true] := by rw [hT]; rfl
 have hFst : ∀ wa wb, (fun w9 => ∃ y2 : Rk, KB9 w9 g y2 ∧ RkM w9 w.heap.size y2 ∧ y2.kind = y2.kind ∧ y2.shard = y2.shard ∧ KB9 w9 (B + 1) zeroRk ∧ Ex w w9) wa → Ex wa wb → (fun w9 => ∃ y2 : Rk, KB9 w9 g y2 ∧ RkM w9 w.heap.size y2 ∧ y2.kind = y2.kind ∧ y2.shard = y2.shard ∧ KB9 w9 (B + 1) zeroRk ∧ Ex w w9) wb := fun _ _ h k9 => by obtain ⟨y2, h1, h2, h3, h4, h5, h6⟩ := h; exact ⟨y2, h1.ext k9, h2.ext k9, h3, h4, h5.ext k9, Ex.trans h6 k9⟩
 refine wp_region_gen (JE w6 T ([none, none, none, none, none, none, none, none, none, none] : List (Option Nat)) ([(9, 2), (9, 7)] : List (Nat × Nat)) 9 9 (fun w9 => ∃ y2 : Rk, KB9 w9 g y2 ∧ RkM w9 w.heap.size y2 ∧ y2.kind = y2.kind ∧ y2.shard = y2.shard ∧ KB9 w9 (B + 1) zeroRk ∧ Ex w w9)) (by kernel_rfl) (by kernel_rfl) (by kernel_rfl) (fitB_spec (by kernel_rfl)) (fun listed f h => JE.start listed f h) ?_ ?_
 ·intro i o ho
  have hi : i < 10 := (Array.getElem?_eq_some_iff.1 ho).1
  have hi' : i = 0 ∨ i = 1 ∨ i = 2 ∨ i = 3 ∨ i = 4 ∨ i = 5 ∨ i = 6 ∨ i = 7 ∨ i = 8 ∨ i = 9 := by omega
  clear hi
  rcases hi' with rfl | rfl | rfl | rfl | rfl | rfl | rfl | rfl | rfl | rfl
  all_goals (simp only [List.getElem?_toArray, List.getElem?_cons_zero, List.getElem?_cons_succ, Option.some.injEq] at ho; subst ho; intro listed f a w7 hJ hsz hls hun hdep hout hlat; first | (rw [if_pos (by rfl)]; intro K hK) | skip)
  ·have q1 := hout 1 ob
   exact wp_mw _ rfl q1 (hK _ _ (hJ.plain (by rw [hls]; decide) hFst (by decide) (Ex.refl _) (by rw [hT]; rfl) nh))
  ·have q5 := hout 5 ob
   rw [gd9] at q5
   clear hsz hdep hout hlat
   go_simp
   exact hK _ _ (hJ.plain (by rw [hls]; decide) hFst (by decide) (Ex.refl _) (by rw [hT]; first | rfl | exact congrArg (Value.int .i64) (by omega) | exact congrArg (Value.int .i64) (by rw [IntKind.wrap_i64]; omega)) nh)
  ·have q42 := hJ.iw hT (hdep ⟨1, .data⟩ (by simp) rfl) rfl rfl _ rfl _ rfl
   have hcut : listed.getD 9 false = false := by
    cases hc : listed.getD 9 false with
    | false => rfl
    | true =>
     have hc0 := hJ.ord (9, 2) (by simp) hc
     exact absurd hc0 (by rw [hun]; decide)
   have hpre := hJ.pre hcut
   have c1 := (show w7.cell? ⟨g, 1, none⟩ = some (.int .i64 (s : Int)) from by rw [← HSS.out]; exact ((G6.out).ext hpre).cells.2.1)
   rw [gd9] at q42
   clear hsz hdep hout hlat
   go_simp
   exact hK _ _ (hJ.plain (by rw [hls]; decide) hFst (by decide) (Ex.refl _) (by rw [hT]; rfl) nh)
  ·have q41 := hJ.iv hT (hdep ⟨0, .data⟩ (by simp) rfl) rfl rfl _ rfl _ rfl
   clear hsz hdep hout hlat
   go_simp
   exact hK _ _ (hJ.plain (by rw [hls]; decide) hFst (by decide) (Ex.refl _) (by rw [hT]; first | rfl | exact congrArg (Value.int .i64) (by omega) | exact congrArg (Value.int .i64) (by rw [IntKind.wrap_i64]; omega)) nh)
  ·have q44 := hJ.iv hT (hdep ⟨3, .data⟩ (by simp) rfl) rfl rfl _ rfl _ rfl
   clear hsz hdep hout hlat
   go_simp
   exact hK _ _ (hJ.plain (by rw [hls]; decide) hFst (by decide) (Ex.refl _) (by rw [hT]; first | rfl | exact congrArg (Value.int .i64) (by omega) | exact congrArg (Value.int .i64) (by rw [IntKind.wrap_i64]; omega)) nh)
  ·have q45 := hJ.iv hT (hdep ⟨4, .data⟩ (by simp) rfl) rfl rfl _ rfl _ rfl
   have q43 := hJ.iv hT (hdep ⟨2, .data⟩ (by simp) rfl) rfl rfl _ rfl _ rfl
   clear hsz hdep hout hlat
   go_simp
   exact hK _ _ (hJ.plain (by rw [hls]; decide) hFst (by decide) (Ex.refl _) (by rw [hT]; first | rfl | exact congrArg (Value.int .i64) (by omega) | exact congrArg (Value.int .i64) (by rw [IntKind.wrap_i64]; omega)) nh)
  ·have q46 := hJ.iv hT (hdep ⟨5, .data⟩ (by simp) rfl) rfl rfl _ rfl _ rfl
   clear hsz hdep hout hlat
   go_simp
   exact hK _ _ (hJ.plain (by rw [hls]; decide) hFst (by decide) (Ex.refl _) (by rw [hT]; first | rfl | exact congrArg (Value.int .i64) (by omega) | exact congrArg (Value.int .i64) (by rw [IntKind.wrap_i64]; omega)) nh)
  ·have q47 := hJ.iw hT (hdep ⟨6, .data⟩ (by simp) rfl) rfl rfl _ rfl _ rfl
   have hcut : listed.getD 9 false = false := by
    cases hc : listed.getD 9 false with
    | false => rfl
    | true =>
     have hc0 := hJ.ord (9, 7) (by simp) hc
     exact absurd hc0 (by rw [hun]; decide)
   have hpre := hJ.pre hcut
   have c1 := (show w7.cell? ⟨M, 2 + s * 4 + 1, none⟩ = some (.int .u64 pe) from by rw [HPE.out]; exact ((HP.out.ext (Ex.trans B6.out hpre)).cells hs16).2.1)
   rw [gd9] at q47
   clear hsz hdep hout hlat
   go_simp
   exact hK _ _ (hJ.plain (by rw [hls]; decide) hFst (by decide) (Ex.refl _) (by rw [hT]; rfl) nh)
  ·have q5 := hout 5 ob
   rw [gd9] at q5
   clear hsz hdep hout hlat
   go_simp
   exact hK _ _ (hJ.plain (by rw [hls]; decide) hFst (by decide) (Ex.refl _) (by rw [hT]; first | rfl | exact congrArg (Value.int .i64) (by omega) | exact congrArg (Value.int .i64) (by rw [IntKind.wrap_i64]; omega)) nh)
  have q49 := hJ.iw hT (hdep ⟨8, .data⟩ (by simp) rfl) rfl rfl _ rfl _ rfl
  have q48 := hJ.iw hT (hdep ⟨7, .data⟩ (by simp) rfl) rfl rfl _ rfl _ rfl
  have hl2 := (hdep ⟨2, .phase⟩ (by simp) rfl).1
  have hl7 := (hdep ⟨7, .data⟩ (by simp) rfl).1
  have hord : ∀ x ∈ ([(9, 2), (9, 7)] : List (Nat × Nat)), x.1 = 9 → listed.getD x.2 false = true := (by intro x hx he; simp only [List.mem_cons, List.not_mem_nil, or_false] at hx; rcases hx with rfl | rfl; all_goals first | (exact absurd he (by decide)) | assumption)
  have hcut := hun
  have hpre := hJ.pre hcut
  have hc1 : ∀ j, j ≠ 9 → ([true, true, true, true, true, true, true, true, true, true] : List Bool).getD j true = false → listed.getD j false = true → ∃ c, (([none, none, none, none, none, none, none, none, none, none] : List (Option Nat))).getD j none = some c ∧ (c = 9 ∨ listed.getD c false = true) := by
   intro j hj hfj hl
   have hm : False := by
    rcases Nat.lt_or_ge j 10 with h | h
    ·have hk : j = 0 ∨ j = 1 ∨ j = 2 ∨ j = 3 ∨ j = 4 ∨ j = 5 ∨ j = 6 ∨ j = 7 ∨ j = 8 ∨ j = 9 := by omega
     rcases hk with rfl | rfl | rfl | rfl | rfl | rfl | rfl | rfl | rfl | rfl <;> first | (exact absurd hfj (by decide)) | simp
    ·rw [List.getD_eq_getElem?_getD, List.getElem?_eq_none (by simpa using h)] at hfj; cases hfj
   rcases hm with ⟨⟩
  refine wp_st1 (C := y2.C) _ _ g 3 (.int .u64 pe) rfl q49 q48 ((G6.out).ext hpre).2 (by rw [Rk.len (G6.out).1]; decide) (by kernel_rfl) rfl (fun w5 hd ho => ?_)
  have kt : Kt [39] 0 w7 w5 := Kt.md ho.md (Nat.zero_le _) ((G6.out).ext hpre).2 (List.mem_singleton.2 rfl)
  have hfin : ∃ y2 : Rk, KB9 w5 g y2 ∧ RkM w5 w.heap.size y2 ∧ y2.kind = y2.kind ∧ y2.shard = y2.shard ∧ KB9 w5 (B + 1) zeroRk ∧ Ex w w5 := ⟨_, KB9.set_ep (G6.out).1 hd, ((M6.out).ext hpre).kt kt (by decide) (by decide) pe HPEN.out, rfl, rfl, ⟨(Z6.out).1, ho.bk ((Z6.out).ext hpre).2 (by have := HGB.out; omega)⟩, ho.below w.heap.size (by have := HGB.out; have := HB.out; omega) w (Ex.trans B6.out hpre)⟩
  exact hK _ _ (hJ.mod (by rw [hls]; decide) HFX (by rw [hT]; exact trivial) hc1 (Or.inl rfl) (fun _ => hfin) hord)
 intro listed f w7 hall hJ
 have xf : (fun w9 => ∃ y2 : Rk, KB9 w9 g y2 ∧ RkM w9 w.heap.size y2 ∧ y2.kind = y2.kind ∧ y2.shard = y2.shard ∧ KB9 w9 (B + 1) zeroRk ∧ Ex w w9) w7 := hJ.fin (hall 9 (by simp))
 simp only [putAll, Act.put, List.setIfInBounds_toArray, List.set_cons_zero, List.set_cons_succ, Nat.zero_add, Nat.reduceAdd]
 clear hJ hall hT HFX hFst
 obtain ⟨y3, h1, h2, h3, h4, h5, h6⟩ := xf
 have G7 := Hi h1
 have M7 := Hi h2
 have Z7 := Hi h5
 have B7 := Hi h6
 clear h1 h2 h3 h4 h5 h6 G6 M6 Z6 B6
 go_wp2_with (first | ((with_reducible refine so0 ?_ ?_); (focus rfl)) | ((with_reducible refine so4 [39, 1000 + 39, 30, 1000 + 30, 41] ?_ ?_); (focus rfl)))
 refine at9 (by go_simp) fun K0 hK => ld_rk _ g y3 rfl rfl G7.out (hK _ _ ?_)
 clear hK
 go_wp2_with (first | ((with_reducible refine so0 ?_ ?_); (focus rfl)) | ((with_reducible refine so4 [39, 1000 + 39, 30, 1000 + 30, 41] ?_ ?_); (focus rfl)))
 refine at9 (by go_simp) fun K0 hK => st_rk _ _ (B + 1) (y3) rfl rfl rfl M7.out.v.ok Z7.out.2 (by rw [List.size_toArray, Rk.len Z7.out.1]) (fun w9 hd ho => hK _ _ ?_)
 clear hK
 have HD := Hi hd
 have BX := Hi (ho.below w.heap.size (by rw [← HB.out]; omega) w B7.out)
 have HKT := Hi (Kt.md (S := [39]) (B := 0) ho.md (Nat.zero_le _) Z7.out.2 (List.mem_singleton.2 rfl))
 clear hd ho
 go_wp2_with fail
 exact bodyPost_ret (res_rk rfl _ _ (B + 1) rfl (y3) HD.out) rfl ⟨y3, rfl, Or.inr (by have h9 := M7.out.kt HKT.out (by decide) (by decide) y3.ep M7.out.inn.ep; exact h9), BX.out⟩
end Go.Proofs.Ytmjfnpmnhehnkaa
