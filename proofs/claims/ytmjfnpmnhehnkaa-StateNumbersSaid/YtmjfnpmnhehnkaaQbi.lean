/- Rg -/
import Derived.Test.YtmjfnpmnhehnkaaQbh
set_option maxRecDepth 100000
set_option maxHeartbeats 16000000
namespace Go.Proofs.Ytmjfnpmnhehnkaa
open Go.RowKit
structure Rr where
 kind : Int
 shard : Int
 tw : Int
 ep : Int
 v : Kv
 ad : Option Addr
 cap : Nat
 l : List Kv
def Rr.C (x : Rr) : List Value := [.int .i64 x.kind, .int .i64 x.shard, .int .i64 x.tw, .int .u64 x.ep] ++ x.v.C ++ [.slice x.ad x.l.length x.cap]
def Rr.V (x : Rr) : Value := .agg x.C.toArray
structure Rr.In (x : Rr) (w : World) : Prop where
 kind : i64 x.kind
 shard : i64 x.shard
 tw : i64 x.tw
 ep : 0 ≤ x.ep ∧ x.ep < 18446744073709551616
 v : x.v.In w
 inn : Kvp.In x.ad x.cap x.l w
 cap : x.cap ≤ 9223372036854775807
theorem Rr.In.ext {x : Rr} {w w' : World} (h : x.In w) (k : Ex w w') : x.In w' := { h with v := h.v.ext k, inn := h.inn.ext k }
theorem Rr.len (x : Rr) : x.C.length = 13 := rfl
def RrB (w : World) (g : Nat) (x : Rr) : Prop := Bk w g 30 x.C.toArray
theorem RrB.ext {w w' : World} {g : Nat} {x : Rr} (h : RrB w g x) (k : Ex w w') : RrB w' g x := Bk.ext h k
theorem RrB.cells {w : World} {g : Nat} {x : Rr} (h : RrB w g x) : w.cell? ⟨g, 0, none⟩ = some (.int .i64 x.kind) ∧ w.cell? ⟨g, 1, none⟩ = some (.int .i64 x.shard) ∧ w.cell? ⟨g, 2, none⟩ = some (.int .i64 x.tw) ∧ w.cell? ⟨g, 3, none⟩ = some (.int .u64 x.ep) ∧ w.cell? ⟨g, 4, none⟩ = some (.int .i64 x.v.id) ∧ w.cell? ⟨g, 12, none⟩ = some (.slice x.ad x.l.length x.cap) :=
 ⟨(Bk.cell h 0).trans rfl, (Bk.cell h 1).trans rfl, (Bk.cell h 2).trans rfl, (Bk.cell h 3).trans rfl, (Bk.cell h 4).trans rfl, (Bk.cell h 12).trans rfl⟩
def zeroRk : Rk := ⟨0, 0, 0, 0, zeroVt, none, 0, []⟩
theorem Rk.C_one (x : Rk) : ∀ u ∈ x.C, u.oneCell' = true := by
 intro u hu
 unfold Rk.C at hu
 rcases List.mem_append.1 hu with hu | hu
 ·rcases List.mem_append.1 hu with hu | hu
  ·simp only [List.mem_cons, List.not_mem_nil, or_false] at hu
   rcases hu with rfl | rfl | rfl | rfl <;> rfl
  exact Vt.C_one x.v u hu
 simp only [List.mem_cons, List.not_mem_nil, or_false] at hu
 rw [hu]; rfl
section
variable {o : Oper} {a : Act} {w : World} {K : Act → World → Prop} {Q : Exit → Act → World → Prop}
theorem ld_rrv (x : Operand) (g : Nat) (v : Rr) (ho : o.op = .load 27 x) (ha : a.eval x = .pointer (some ⟨g, 4, none⟩)) (h : RrB w g v) (hk : K (a.put o.dst v.v.V) w) : o.wp Try.prog a w K Q := by
 obtain ⟨dd, hd⟩ : ∃ d, Try.prog.underlying 27 = some d ∧ d.isRow = true := ⟨_, Try.underlying27, rfl⟩
 exact wp_ldp (C := v.C) v.v.C x g 4 dd ho ha h rfl hd.1 hd.2 (by rw [show (Try.prog.info? 27).map (·.size) = some 8 by kernel_rfl]; rfl) hk
theorem st_rk (x y : Operand) (g : Nat) (v : Rk) (ho : o.op = .store 39 x y) (ha : a.eval x = .pointer (some ⟨g, 0, none⟩)) (hy : a.eval y = .agg v.C.toArray) (hv : v.v.Ok) {Y : Array Value} (hB : Bk w g 39 Y) (hY : Y.size = 47) (hk : ∀ w', KB9 w' g v → Only g w w' → K (a.put o.dst undef) w') : o.wp Try.prog a w K Q := by
 have hB' : Bk w g 39 Y.toList.toArray := by simpa using hB
 refine wp_stp v.C x y g 0 ho ha hy hB' (by rw [Rk.len hv]; simp [hY]) (by rw [Try.sizeRk, Rk.len hv]) (all_oneCell_toArray (Rk.C_one v)) (fun w' h1 h2 => hk w' ⟨hv, ?_⟩ h2)
 have e : Y.toList.take 0 ++ v.C ++ Y.toList.drop (0 + v.C.length) = v.C := by
  rw [List.take_zero, List.nil_append, List.drop_eq_nil_of_le (by rw [Rk.len hv]; simp [hY]), List.append_nil]
 rw [e] at h1; exact h1
end
theorem res_rk {fn : Func} {a : Tmp} (h : fn.results = #[.cell a 39]) (tmps : Array Value) (w : World) (g : Nat) (ha : tmps.getD a undef = .pointer (some ⟨g, 0, none⟩)) (x : Rk) (hB : KB9 w g x) : (results fn tmps).run Try.prog w = .ok x.V w := by
 obtain ⟨dd, hd⟩ : ∃ d, Try.prog.underlying 39 = some d ∧ d.isRow = true := ⟨_, Try.underlying39, rfl⟩
 exact res_row1 h tmps w g ha hB.2 hd.1 hd.2 (by rw [Try.sizeRk, Rk.len hB.1])
structure RkM (w : World) (B : Nat) (x : Rk) : Prop where
 inn : x.In w
 v : TVN w x.v
 row : VRow w B (.slice x.ad x.l.length x.cap) x.l
 sh : x.kind = 1 ∨ (0 ≤ x.shard ∧ x.shard < 16)
theorem RkM.ext {w w' : World} {B : Nat} {x : Rk} (h : RkM w B x) (k : Ex w w') : RkM w' B x := ⟨h.inn.ext k, h.v.ext k, h.row.ext k, h.sh⟩
theorem RkM.less {w : World} {B B' : Nat} {x : Rk} (h : RkM w B x) (k : B' ≤ B) : RkM w B' x := ⟨h.inn, h.v, h.row.less k, h.sh⟩
theorem zeroVt_tvn (w : World) : TVN w zeroVt := ⟨zeroVt_ok, nilB_pn _ _, Nat.zero_le _⟩
theorem rkm_of {w : World} {B : Nat} {k s t e : Int} {ad : Option Addr} {cap : Nat} {l : List Vt} {y : Vt} (hk : i64 k) (hs : i64 s) (ht : i64 t) (he : 0 ≤ e ∧ e < 18446744073709551616) (hy : TVN w y) (h : VRow w B (.slice ad l.length cap) l) (hsh : k = 1 ∨ (0 ≤ s ∧ s < 16)) : RkM w B ⟨k, s, t, e, y, ad, cap, l⟩ := by
 obtain ⟨ad2, cap2, e2, hin, hc⟩ := h.inn3
 cases e2
 exact ⟨⟨hk, hs, ht, he, hy.vi, hin, hc, fun i z hz => (h.ins i z hz).vi⟩, hy, h, hsh⟩
def RecPost (w : World) (e : Ending) (w' : World) : Prop := ∃ x : Rk, e = .returned x.V ∧ RkM w' w.heap.size x ∧ Ex w w'
theorem vrow_none (w : World) (B : Nat) : VRow w B (.slice none ([] : List Vt).length 0) [] := VRow.nil w B
theorem krec_any (x : Rr) (w : World) (hx : x.In w) : Calls Try.prog 52 #[x.V] w (RecPost w) := by
 obtain ⟨cs, hcs⟩ : ∃ cs, cs = x.C.toArray := ⟨_, rfl⟩
 have A0 : Hid (RrB ((w.alloc (.cells cs 30)).alloc (.cells zeroRk.C.toArray 39)) w.heap.size x) := Hi (by rw [hcs]; exact (Bk.new rfl _ _).more _)
 have Z0 : Hid (KB9 ((w.alloc (.cells cs 30)).alloc (.cells zeroRk.C.toArray 39)) (w.heap.size + 1) zeroRk) := Hi ⟨zeroVt_ok, Bk.new (by simp) _ _⟩
 have BW : Hid (Ex w ((w.alloc (.cells cs 30)).alloc (.cells zeroRk.C.toArray 39))) := Hi (Ex.trans (Ex.alloc w _) (Ex.alloc _ _))
 rw [show (Calls Try.prog 52 #[x.V] w) = (Calls Try.prog 52 #[.agg cs] w) by rw [hcs]; rfl]
 have HX := Hi hx
 have tm := Int.tmod_eq_emod_of_nonneg hx.ep.1 (b := 6)
 have t0 := Int.emod_nonneg x.ep (show (6 : Int) ≠ 0 by decide)
 have t1 := Int.emod_lt_of_pos x.ep (show (0 : Int) < 6 by decide)
 have e0 := hx.ep.1
 have e1 := hx.ep.2
 obtain ⟨ep, hep⟩ : ∃ e, e = 1 + x.ep % 6 := ⟨_, rfl⟩
 have HE : Hid (0 ≤ ep ∧ ep < 18446744073709551616) := Hi (by omega)
 have HEP := Hi hep
 clear hcs hx hep
 go_enter Try.func52, Try.ntmps52
 go_wp2_with ((with_reducible refine so4 [3] ?_ ?_); (focus rfl))
 (with_reducible refine ⟨?_⟩)
 change wpList _ _ _ _ _ ((w.alloc (.cells cs 30)).alloc (.cells zeroRk.C.toArray 39))
 generalize hw1 : ((w.alloc (.cells cs 30)).alloc (.cells zeroRk.C.toArray 39)) = w1 at *
 clear hw1
 obtain ⟨B, hB⟩ : ∃ B, B = w.heap.size := ⟨_, rfl⟩
 rw [← hB] at A0 Z0 ⊢
 have HB := Hi hB
 clear hB
 obtain ⟨k0, k1, k2, k3, k4, k12⟩ := A0.out.cells
 go_wp2_with fail
 refine (within_any x.shard 0 15 HX.out.shard (by decide) (by decide) (by decide) w1).mono ?_
 rintro e w2 ⟨sh, rfl, s0, s1, rfl⟩
 go_wp2_with fail
 rw [← HEP.out]
 clear tm t0 t1 e0 e1 k3
 refine (within_any x.kind 0 1048576 HX.out.kind (by decide) (by decide) (by decide) w1).mono ?_
 rintro e w2 ⟨kd, rfl, d0, d1, rfl⟩
 have HI15 : Hid (i64 sh) := Hi (by unfold i64; omega)
 have HSH := Hi (And.intro s0 s1)
 have z0 : 0 ≤ kd % 6 := Int.emod_nonneg _ (by decide)
 have z1 : kd % 6 < 6 := Int.emod_lt_of_pos _ (by decide)
 by_cases h3 : kd % 6 = 3
 ·skip
  go_wp2_with fail
  refine (within_any x.tw 0 7 HX.out.tw (by decide) (by decide) (by decide) w1).mono ?_
  rintro e w2 ⟨tw, rfl, w0_, w1_, rfl⟩
  have HTW : Hid (i64 tw) := Hi (by unfold i64; omega)
  have BZ := BW
  go_wp2_with (first | ((with_reducible refine so0 ?_ ?_); (focus rfl)) | ((with_reducible refine so4 [39, 1000 + 39, 27, 30, 1000 + 30] ?_ ?_); (focus rfl)))
  refine at9 (by go_simp) fun K0 hK => wp_build _ _ rfl _ (built_rkO sh tw ep) (hK _ _ ?_)
  clear hK
  go_wp2_with (first | ((with_reducible refine so0 ?_ ?_); (focus rfl)) | ((with_reducible refine so4 [39, 1000 + 39, 27, 30, 1000 + 30] ?_ ?_); (focus rfl)))
  refine at9 (by go_simp) fun K0 hK => st_rk _ _ (B + 1) (rkO sh tw ep) rfl rfl rfl zeroVt_ok (Z0.out).2 (by rw [List.size_toArray, Rk.len (Z0.out).1]) (fun w9 hd ho => hK _ _ ?_)
  clear hK
  have HD := Hi hd
  have BX := Hi (ho.below w.heap.size (by rw [← HB.out]; omega) w BZ.out)
  have HO := Hi ho
  clear hd ho
  go_wp2_with fail
  exact bodyPost_ret (res_rk rfl _ _ (B + 1) rfl (rkO sh tw ep) HD.out) rfl ⟨rkO sh tw ep, rfl, rkm_of (by unfold i64; omega) HI15.out HTW.out HE.out (zeroVt_tvn _) (vrow_none _ _) (Or.inr (by have := HSH.out; omega)), BX.out⟩
 by_cases h4 : kd % 6 = 4
 ·skip
  go_wp2_with fail
  refine (keepvs_any x.ad x.cap x.l sh HI15.out w1 (Nat.le_trans (HX.out.ext BW.out).inn.len HX.out.cap) (HX.out.ext BW.out).inn).mono ?_
  rintro e w2 ⟨v, ys, rfl, hr, hy4, hyi, hyr, x2⟩
  have BZ := Hi (Ex.trans BW.out x2)
  have Z2 := Hi (Z0.out.ext x2)
  obtain ⟨ad, cap, rfl, hin, hcap⟩ := hr.inn3
  have HR := Hi (hr.less BW.out.sz')
  clear hr hin hcap hy4 hyi hyr x2 k0 k1 k2 k4 k12
  go_wp2_with (first | ((with_reducible refine so0 ?_ ?_); (focus rfl)) | ((with_reducible refine so4 [39, 1000 + 39, 27, 30, 1000 + 30] ?_ ?_); (focus rfl)))
  refine at9 (by go_simp) fun K0 hK => wp_build _ _ rfl _ (built_rkI sh ep ad cap ys) (hK _ _ ?_)
  clear hK
  go_wp2_with (first | ((with_reducible refine so0 ?_ ?_); (focus rfl)) | ((with_reducible refine so4 [39, 1000 + 39, 27, 30, 1000 + 30] ?_ ?_); (focus rfl)))
  refine at9 (by go_simp) fun K0 hK => st_rk _ _ (B + 1) (rkI sh ep ad cap ys) rfl rfl rfl zeroVt_ok (Z2.out).2 (by rw [List.size_toArray, Rk.len (Z2.out).1]) (fun w9 hd ho => hK _ _ ?_)
  clear hK
  have HD := Hi hd
  have BX := Hi (ho.below w.heap.size (by rw [← HB.out]; omega) w BZ.out)
  have HO := Hi ho
  clear hd ho
  go_wp2_with fail
  have kt : Kt [39] 0 w2 w9 := Kt.md HO.out.md (Nat.zero_le _) Z2.out.2 (List.mem_singleton.2 rfl)
  have HR9 : Hid (VRow w9 w.heap.size (.slice ad ys.length cap) ys) := Hi ⟨kt.row HR.out.row (by decide), fun i z hz => (HR.out.ins i z hz).kt kt (by decide)⟩
  exact bodyPost_ret (res_rk rfl _ _ (B + 1) rfl (rkI sh ep ad cap ys) HD.out) rfl ⟨rkI sh ep ad cap ys, rfl, rkm_of (by unfold i64; omega) HI15.out (by unfold i64; omega) HE.out (zeroVt_tvn _) HR9.out (Or.inr (by have := HSH.out; omega)), BX.out⟩
 by_cases h5 : kd % 6 = 5
 ·skip
  have BZ := BW
  go_wp2_with (first | ((with_reducible refine so0 ?_ ?_); (focus rfl)) | ((with_reducible refine so4 [39, 1000 + 39, 27, 30, 1000 + 30] ?_ ?_); (focus rfl)))
  refine at9 (by go_simp) fun K0 hK => wp_build _ _ rfl _ (built_rkD sh ep) (hK _ _ ?_)
  clear hK
  go_wp2_with (first | ((with_reducible refine so0 ?_ ?_); (focus rfl)) | ((with_reducible refine so4 [39, 1000 + 39, 27, 30, 1000 + 30] ?_ ?_); (focus rfl)))
  refine at9 (by go_simp) fun K0 hK => st_rk _ _ (B + 1) (rkD sh ep) rfl rfl rfl zeroVt_ok (Z0.out).2 (by rw [List.size_toArray, Rk.len (Z0.out).1]) (fun w9 hd ho => hK _ _ ?_)
  clear hK
  have HD := Hi hd
  have BX := Hi (ho.below w.heap.size (by rw [← HB.out]; omega) w BZ.out)
  have HO := Hi ho
  clear hd ho
  go_wp2_with fail
  exact bodyPost_ret (res_rk rfl _ _ (B + 1) rfl (rkD sh ep) HD.out) rfl ⟨rkD sh ep, rfl, rkm_of (by unfold i64; omega) HI15.out (by unfold i64; omega) HE.out (zeroVt_tvn _) (vrow_none _ _) (Or.inr (by have := HSH.out; omega)), BX.out⟩
 skip
 go_wp2_with fail
 clear k0 k1 k2 k4 k12
 obtain ⟨T, hT⟩ : ∃ T : List Sx, T = [.is (.pointer (some ⟨B, 4, none⟩)), .is (x.v.V), .is (.pointer (some ⟨B, 4, none⟩)), .is (.pointer (some ⟨B, 4, none⟩)), .is (.int .i64 x.v.id), .of (fun v _ => ∃ d : List UInt8, v = digV d ∧ d.length = 4) (fun v _ _ h _ => h), .of (fun v w9 => ∃ y : Vt, v = y.V ∧ TVN w9 y) (fun v _ _ h k => by obtain ⟨p, h1, h2⟩ := h; exact ⟨p, h1, h2.ext k⟩), .of (fun v w9 => ∃ y : Vt, v = .agg (rkK y).C.toArray ∧ TVN w9 y) (fun v _ _ h k => by obtain ⟨p, h1, h2⟩ := h; exact ⟨p, h1, h2.ext k⟩), .any] := ⟨_, rfl⟩
 have HFX : T.map Sx.fixed = [true, true, true, true, true, false, false, false, true] := by rw [hT]; rfl
 have hFst : ∀ wa wb, (fun w9 => ∃ y : Vt, KB9 w9 (B + 1) (rkK y) ∧ TVN w9 y ∧ Ex w w9) wa → Ex wa wb → (fun w9 => ∃ y : Vt, KB9 w9 (B + 1) (rkK y) ∧ TVN w9 y ∧ Ex w w9) wb := fun _ _ h k9 => by obtain ⟨y, h1, h2, h3⟩ := h; exact ⟨y, h1.ext k9, h2.ext k9, Ex.trans h3 k9⟩
 refine wp_region_gen (JE w1 T ([none, none, none, none, none, some 6, some 7, some 8, none] : List (Option Nat)) ([(8, 1), (8, 4), (8, 6)] : List (Nat × Nat)) 8 8 (fun w9 => ∃ y : Vt, KB9 w9 (B + 1) (rkK y) ∧ TVN w9 y ∧ Ex w w9)) (by kernel_rfl) (by kernel_rfl) (by kernel_rfl) (fitB_spec (by kernel_rfl)) (fun listed f h => JE.start listed f h) ?_ ?_
 ·intro i o ho
  have hi : i < 9 := (Array.getElem?_eq_some_iff.1 ho).1
  have hi' : i = 0 ∨ i = 1 ∨ i = 2 ∨ i = 3 ∨ i = 4 ∨ i = 5 ∨ i = 6 ∨ i = 7 ∨ i = 8 := by omega
  clear hi
  rcases hi' with rfl | rfl | rfl | rfl | rfl | rfl | rfl | rfl | rfl
  all_goals (simp only [List.getElem?_toArray, List.getElem?_cons_zero, List.getElem?_cons_succ, Option.some.injEq] at ho; subst ho; intro listed f a w3 hJ hsz hls hun hdep hout hlat; first | (rw [if_pos (by rfl)]; intro K hK) | skip)
  ·have q1 := hout 1 ob
   rw [gd9] at q1
   clear hsz hdep hout hlat
   go_simp
   exact hK _ _ (hJ.plain (by rw [hls]; decide) hFst (by decide) (Ex.refl _) (by rw [hT]; first | rfl | exact congrArg (Value.int .i64) (by omega) | exact congrArg (Value.int .i64) (by rw [IntKind.wrap_i64]; omega)) nh)
  ·have q38 := hJ.iw hT (hdep ⟨0, .data⟩ (by simp) rfl) rfl rfl _ rfl _ rfl
   have hcut : listed.getD 8 false = false := by
    cases hc : listed.getD 8 false with
    | false => rfl
    | true =>
     have hc0 := hJ.ord (8, 1) (by simp) hc
     exact absurd hc0 (by rw [hun]; decide)
   have hpre := hJ.pre hcut
   exact ld_rrv _ B x rfl q38 (A0.out.ext hpre) (hK _ _ (hJ.plain (by rw [hls]; decide) hFst (by decide) (Ex.refl _) (by rw [hT]; rfl) nh))
  ·have q1 := hout 1 ob
   rw [gd9] at q1
   clear hsz hdep hout hlat
   go_simp
   exact hK _ _ (hJ.plain (by rw [hls]; decide) hFst (by decide) (Ex.refl _) (by rw [hT]; first | rfl | exact congrArg (Value.int .i64) (by omega) | exact congrArg (Value.int .i64) (by rw [IntKind.wrap_i64]; omega)) nh)
  ·have q40 := hJ.iv hT (hdep ⟨2, .data⟩ (by simp) rfl) rfl rfl _ rfl _ rfl
   clear hsz hdep hout hlat
   go_simp
   exact hK _ _ (hJ.plain (by rw [hls]; decide) hFst (by decide) (Ex.refl _) (by rw [hT]; first | rfl | exact congrArg (Value.int .i64) (by omega) | exact congrArg (Value.int .i64) (by rw [IntKind.wrap_i64]; omega)) nh)
  ·have q41 := hJ.iw hT (hdep ⟨3, .data⟩ (by simp) rfl) rfl rfl _ rfl _ rfl
   have hcut : listed.getD 8 false = false := by
    cases hc : listed.getD 8 false with
    | false => rfl
    | true =>
     have hc0 := hJ.ord (8, 4) (by simp) hc
     exact absurd hc0 (by rw [hun]; decide)
   have hpre := hJ.pre hcut
   have c1 := (A0.out.ext hpre).cells.2.2.2.2.1
   rw [gd9] at q41
   clear hsz hdep hout hlat
   go_simp
   exact hK _ _ (hJ.plain (by rw [hls]; decide) hFst (by decide) (Ex.refl _) (by rw [hT]; rfl) nh)
  ·have q42 := hJ.iv hT (hdep ⟨4, .data⟩ (by simp) rfl) rfl rfl _ rfl _ rfl
   clear hsz hdep hout hlat
   go_simp
   refine (id_any x.v.id HX.out.v.id w3).mono ?_
   rintro e w4 ⟨d, rfl, h1, x3⟩
   exact hK _ _ (hJ.plain (by rw [hls]; decide) hFst (by decide) x3 (by rw [hT]; exact ⟨d, rfl, h1⟩) nh)
  ·have q39 := hJ.iw hT (hdep ⟨1, .data⟩ (by simp) rfl) rfl rfl _ rfl _ rfl
   have dd43 := hdep ⟨5, .data⟩ (by simp) rfl
   have q43 := dd43.2 _ rfl _ rfl
   have h43 := hJ.vals 5 dd43.1 (fun c hc => by have hc : some 6 = some c := hc; cases hc; exact hun)
   rw [hT] at h43
   have h43 : (fun v _ => ∃ d : List UInt8, v = digV d ∧ d.length = 4) (f 5) w3 := h43
   obtain ⟨d43, e43, n43⟩ := h43
   rw [e43] at q43
   clear dd43
   have hcut : listed.getD 8 false = false := by
    cases hc : listed.getD 8 false with
    | false => rfl
    | true =>
     have hc0 := hJ.ord (8, 6) (by simp) hc
     exact absurd hc0 (by rw [hun]; decide)
   have hpre := hJ.pre hcut
   rw [gd9] at q39 q43
   clear hsz hdep hout hlat
   go_simp
   refine (kv_any x.v d43 n43 w3 ((HX.out.v.ext BW.out).ext hpre)).mono ?_
   rintro e w4 ⟨y, rfl, h1, h2, h3, x3⟩
   exact hK _ _ (hJ.plain (by rw [hls]; decide) hFst (by decide) x3 (by rw [hT]; exact ⟨y, rfl, h1⟩) nh)
  ·have dd44 := hdep ⟨6, .data⟩ (by simp) rfl
   have q44 := dd44.2 _ rfl _ rfl
   have h44 := hJ.vals 6 dd44.1 (fun c hc => by have hc : some 7 = some c := hc; cases hc; exact hun)
   rw [hT] at h44
   have h44 : (fun v w9 => ∃ y : Vt, v = y.V ∧ TVN w9 y) (f 6) w3 := h44
   obtain ⟨y44, e44, n44⟩ := h44
   rw [e44] at q44
   clear dd44
   refine wp_build _ _ rfl (rkK y44).C.toArray ?_ (hK _ _ (hJ.plain (by rw [hls]; decide) hFst (by decide) (Ex.refl _) (by rw [hT]; exact ⟨y44, rfl, n44⟩) nh))
   simp only [List.map_cons, List.map_nil, show a.eval (.tmp 44) = _ from q44]
   exact built_rkK y44 n44.ok
  have q2 := hout 2 ob
  have dd45 := hdep ⟨7, .data⟩ (by simp) rfl
  have q45 := dd45.2 _ rfl _ rfl
  have h45 := hJ.vals 7 dd45.1 (fun c hc => by have hc : some 8 = some c := hc; cases hc; exact hun)
  rw [hT] at h45
  have h45 : (fun v w9 => ∃ y : Vt, v = .agg (rkK y).C.toArray ∧ TVN w9 y) (f 7) w3 := h45
  obtain ⟨y45, e45, n45⟩ := h45
  rw [e45] at q45
  clear dd45
  have hl1 := (hdep ⟨1, .phase⟩ (by simp) rfl).1
  have hl4 := (hdep ⟨4, .phase⟩ (by simp) rfl).1
  have hl6 := (hdep ⟨6, .chain⟩ (by simp) rfl).1
  have hord : ∀ x ∈ ([(8, 1), (8, 4), (8, 6)] : List (Nat × Nat)), x.1 = 8 → listed.getD x.2 false = true := (by intro x hx he; simp only [List.mem_cons, List.not_mem_nil, or_false] at hx; rcases hx with rfl | rfl | rfl; all_goals first | (exact absurd he (by decide)) | assumption)
  have hcut := hun
  have hpre := hJ.pre hcut
  have hc1 : ∀ j, j ≠ 8 → ([true, true, true, true, true, false, false, false, true] : List Bool).getD j true = false → listed.getD j false = true → ∃ c, (([none, none, none, none, none, some 6, some 7, some 8, none] : List (Option Nat))).getD j none = some c ∧ (c = 8 ∨ listed.getD c false = true) := by
   intro j hj hfj hl
   have hm : j = 5 ∨ j = 6 ∨ j = 7 := by
    rcases Nat.lt_or_ge j 9 with h | h
    ·have hk : j = 0 ∨ j = 1 ∨ j = 2 ∨ j = 3 ∨ j = 4 ∨ j = 5 ∨ j = 6 ∨ j = 7 ∨ j = 8 := by omega
     rcases hk with rfl | rfl | rfl | rfl | rfl | rfl | rfl | rfl | rfl <;> first | (exact absurd hfj (by decide)) | simp
    ·rw [List.getD_eq_getElem?_getD, List.getElem?_eq_none (by simpa using h)] at hfj; cases hfj
   rcases hm with rfl | rfl | rfl
   ·exact ⟨6, rfl, Or.inr (hdep ⟨6, .chain⟩ (by simp) rfl).1⟩
   ·exact ⟨7, rfl, Or.inr (hdep ⟨7, .data⟩ (by simp) rfl).1⟩
   ·exact ⟨8, rfl, Or.inl rfl⟩
  refine st_rk _ _ (B + 1) (rkK y45) rfl q2 q45 n45.ok (Z0.out.ext hpre).2 (by rw [List.size_toArray, Rk.len (Z0.out.ext hpre).1]) (fun w5 hd ho => ?_)
  have kt : Kt [39] 0 w3 w5 := Kt.md ho.md (Nat.zero_le _) (Z0.out.ext hpre).2 (List.mem_singleton.2 rfl)
  have hfin : ∃ y : Vt, KB9 w5 (B + 1) (rkK y) ∧ TVN w5 y ∧ Ex w w5 := ⟨y45, hd, n45.kt kt (by decide), ho.below w.heap.size (by rw [← HB.out]; omega) w (Ex.trans BW.out hpre)⟩
  exact hK _ _ (hJ.mod (by rw [hls]; decide) HFX (by rw [hT]; exact trivial) hc1 (Or.inl rfl) (fun _ => hfin) hord)
 intro listed f w3 hall hJ
 have xf : (fun w9 => ∃ y : Vt, KB9 w9 (B + 1) (rkK y) ∧ TVN w9 y ∧ Ex w w9) w3 := hJ.fin (hall 8 (by simp))
 simp only [putAll, Act.put, List.setIfInBounds_toArray, List.set_cons_zero, List.set_cons_succ, Nat.zero_add, Nat.reduceAdd]
 clear hJ hall hT HFX hFst
 obtain ⟨y, h1, h2, h3⟩ := xf
 have HD := Hi h1
 have HT := Hi (And.intro h2 h3)
 clear h1 h2 h3
 go_wp2_with fail
 exact bodyPost_ret (res_rk rfl _ _ (B + 1) rfl (rkK y) HD.out) rfl ⟨rkK y, rfl, rkm_of (by unfold i64; omega) (by unfold i64; omega) (by unfold i64; omega) ⟨Int.le_refl _, by decide⟩ HT.out.1 (vrow_none _ _) (Or.inl rfl), HT.out.2⟩
end Go.Proofs.Ytmjfnpmnhehnkaa
