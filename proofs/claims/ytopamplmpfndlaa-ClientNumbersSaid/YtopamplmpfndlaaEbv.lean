/- Ct, De, Df, Dd, Dg -/
import Derived.Test.YtopamplmpfndlaaEbu
import Derived.OpenShut
import Derived.SizedLaws
import Derived.ChangeSlices
import Derived.Deep.Slices
import Derived.Deep.Fields
set_option maxRecDepth 100000
set_option maxHeartbeats 16000000
namespace Go.Proofs.Ytopamplmpfndlaa.Cl
open Go.RowKit
def zeroWt : Wt := ⟨0, z4, ⟨#[]⟩, nilB, 0, ⟨#[]⟩⟩
theorem zeroWt_len : zeroWt.C.toArray.size = 9 := rfl
theorem AB.ext {w w' : World} {g : Nat} {x : Ak} (h : AB w g x) (k : Ex w w') : AB w' g x := Bk.ext h k
def cutP (x : Ak) : Pt := ⟨x.sec.ad, x.sec.cap, x.sec.l.take 70⟩
def Wish2Post (x : Ak) (w : World) (e : Ending) (w' : World) : Prop := ∃ W : Wt, e = .returned W.V ∧ WI w' W ∧ Ex w w' ∧ (W.sec = x.raw.sec ∨ W.sec = cutP x)
theorem wish2_any (x : Ak) (w : World) (hx : AI w x) : Calls Try.prog 17 #[x.V] w (Wish2Post x w) := by
 obtain ⟨ds, hds⟩ : ∃ ds, ds = x.C.toArray := ⟨_, rfl⟩
 have A0 : Hid (AB ((w.alloc (.cells ds 33)).alloc (.cells zeroWt.C.toArray 31)) w.heap.size x) := Hi (by rw [hds]; exact (Bk.new rfl _ _).more _)
 have Z0 : Hid (Bk ((w.alloc (.cells ds 33)).alloc (.cells zeroWt.C.toArray 31)) (w.heap.size + 1) 31 zeroWt.C.toArray) := Hi (Bk.new (by simp) _ _)
 have BW : Hid (Ex w ((w.alloc (.cells ds 33)).alloc (.cells zeroWt.C.toArray 31))) := Hi (Ex.trans (Ex.alloc _ _) (Ex.alloc _ _))
 have HX := Hi hx
 skip
 rw [show (Calls Try.prog 17 #[x.V] w) = (Calls Try.prog 17 #[.agg ds] w) by rw [hds]; rfl]
 have b0 := hx.turn.1
 have b1 := hx.turn.2
 have t0 : -16 < x.turn.tmod 16 := by have h := Int.tmod_lt_of_pos (-x.turn) (show (0 : Int) < 16 by decide); rw [Int.neg_tmod] at h; omega
 have t1 : x.turn.tmod 16 < 16 := Int.tmod_lt_of_pos x.turn (by decide)
 clear hds hx
 go_enter Try.func17, Try.ntmps17
 go_wp2_with ((with_reducible refine so4 [3] ?_ ?_); (focus rfl))
 (with_reducible refine ⟨?_⟩)
 change wpList _ _ _ _ _ ((w.alloc (.cells ds 33)).alloc (.cells zeroWt.C.toArray 31))
 generalize ((w.alloc (.cells ds 33)).alloc (.cells zeroWt.C.toArray 31)) = wr at A0 Z0 BW ⊢
 obtain ⟨g, hg⟩ : ∃ i, i = w.heap.size := ⟨_, rfl⟩
 have HG := Hi hg
 rw [← hg] at A0 Z0 ⊢
 clear hg
 obtain ⟨c3, c4, c5, c6, c7, c8, c9⟩ := A0.out.at
 by_cases ht : x.turn.tmod 16 = 15
 ·skip
  go_wp2_with ((with_reducible refine so7 [31, 1000 + 31] ?_ ?_); (focus rfl))
  refine at9 (by go_simp) fun K0 hK => ld_araw _ g x rfl rfl HX.out A0.out (hK _ _ ?_)
  clear hK
  go_wp2_with ((with_reducible refine so7 [31, 1000 + 31] ?_ ?_); (focus rfl))
  refine at9 (by go_simp) fun K0 hK => st_w _ _ (g + 1) x.raw rfl rfl rfl HX.out.raw.ok Z0.out zeroWt_len (fun w9 hd ho => hK _ _ ?_)
  clear hK
  have XF := Hi (ho.below w.heap.size (by have := HG.out; omega) _ BW.out)
  have HD := Hi hd
  clear hd ho
  go_wp2_with fail
  exact bodyPost_ret (res_w rfl _ _ (g + 1) rfl x.raw HD.out) rfl ⟨x.raw, rfl, HX.out.raw.ext XF.out, XF.out, Or.inl rfl⟩
 have hlen : Hid (x.sec.l.length ≤ 9223372036854775807) := Hi (Nat.le_trans HX.out.secN (by decide))
 go_wp2_with fail
 clear c3 c4 c5 c6 c7 c8 c9 t0 t1 b0 b1 ht
 obtain ⟨T, hT⟩ : ∃ T : List Sx, T = [.is (.pointer (some ⟨g, 4, none⟩)), .is (.int .i64 x.op), .of (fun v W => ∃ m : Int, v = .int .i64 m ∧ 0 ≤ m ∧ m ≤ 5) (fun _ _ _ h _ => h), .is (.pointer (some ⟨g, 5, none⟩)), .is (.int .i64 x.id), .of (fun v W => ∃ l : List UInt8, v = digV l ∧ l.length = 4) (fun _ _ _ h _ => h), .is (.pointer (some ⟨g, 6, none⟩)), .is (.int .i64 x.pin), .of (fun v W => ∃ s : ByteArray, v = .string s ∧ s.size ≤ 100) (fun _ _ _ h _ => h), .is (.pointer (some ⟨g, 9, none⟩)), .is (x.sec.V), .is ((cutP x).V), .is (.pointer (some ⟨g, 7, none⟩)), .is (.int .i64 x.lim), .of (fun v W => ∃ m : Int, v = .int .i64 m ∧ 0 ≤ m ∧ m ≤ 33) (fun _ _ _ h _ => h), .is (.pointer (some ⟨g, 8, none⟩)), .is (.string x.own), .of (fun v W => ∃ y : Wt, v = y.V ∧ y.Ok ∧ y.sec = cutP x) (fun _ _ _ h _ => h), .any] := ⟨_, rfl⟩
 have HFX : T.map Sx.fixed = [true, true, false, true, true, false, true, true, false, true, true, true, true, true, false, true, true, false, true] := by rw [hT]; rfl
 have hFst : ∀ wa wb, (fun W => ∃ y9 : Wt, WB W (g + 1) y9 ∧ y9.sec = cutP x ∧ Ex w W) wa → Ex wa wb → (fun W => ∃ y9 : Wt, WB W (g + 1) y9 ∧ y9.sec = cutP x ∧ Ex w W) wb := fun _ _ ⟨y9, h1, h2, h3⟩ k => ⟨y9, h1.ext k, h2, Ex.trans h3 k⟩
 refine wp_region_gen (JE wr T ([none, none, some 17, none, none, some 17, none, none, some 17, none, none, none, none, none, some 17, none, none, some 18, none] : List (Option Nat)) ([(18, 1), (18, 4), (18, 7), (18, 10), (18, 13), (18, 16), (18, 11)] : List (Nat × Nat)) 18 18 (fun W => ∃ y9 : Wt, WB W (g + 1) y9 ∧ y9.sec = cutP x ∧ Ex w W)) (by kernel_rfl) (by kernel_rfl) (by kernel_rfl) (fitB_spec (by kernel_rfl)) (fun listed f h => JE.start listed f h) ?_ ?_
 ·intro i o ho
  have hi : i < 19 := (Array.getElem?_eq_some_iff.1 ho).1
  have hi' : i = 0 ∨ i = 1 ∨ i = 2 ∨ i = 3 ∨ i = 4 ∨ i = 5 ∨ i = 6 ∨ i = 7 ∨ i = 8 ∨ i = 9 ∨ i = 10 ∨ i = 11 ∨ i = 12 ∨ i = 13 ∨ i = 14 ∨ i = 15 ∨ i = 16 ∨ i = 17 ∨ i = 18 := by omega
  clear hi
  rcases hi' with rfl | rfl | rfl | rfl | rfl | rfl | rfl | rfl | rfl | rfl | rfl | rfl | rfl | rfl | rfl | rfl | rfl | rfl | rfl
  all_goals (simp only [List.getElem?_toArray, List.getElem?_cons_zero, List.getElem?_cons_succ, Option.some.injEq] at ho; subst ho; intro listed f a w2 hJ hsz hls hun hdep hout hlat; first | (rw [if_pos (by rfl)]; intro K hK) | skip)
  ·have q1 := hout 1 ob
   rw [gd9] at q1
   clear hsz hdep hout hlat
   go_simp
   exact hK _ _ (hJ.plain (by rw [hls]; decide) hFst (by decide) (Ex.refl _) (by rw [hT]; first | rfl | exact congrArg (Value.int .i64) (by omega) | exact congrArg (Value.int .i64) (by rw [IntKind.wrap_i64]; omega)) nh)
  ·have q9 := hJ.iw hT (hdep ⟨0, .data⟩ (by simp) rfl) rfl rfl _ rfl _ rfl
   have hcut : listed.getD 18 false = false := by
    cases hc : listed.getD 18 false with
    | false => rfl
    | true =>
     have hc0 := hJ.ord (18, 1) (by simp) hc
     exact absurd hc0 (by rw [hun]; decide)
   have hpre := hJ.pre hcut
   rw [gd9] at q9
   have c6 := (A0.out.ext hpre).at.2.1
   have HF := Hi (hK (.int .i64 x.op) w2 (hJ.plain (by rw [hls]; decide) hFst (by decide) (Ex.refl _) (by rw [hT]; rfl) nh))
   clear hsz hdep hout hlat hpre hcut hJ hK
   go_simp
   exact HF.out
  ·have q10 := hJ.iv hT (hdep ⟨1, .data⟩ (by simp) rfl) rfl rfl _ rfl _ rfl
   clear hsz hdep hout hlat
   go_simp
   refine (within_any x.op 0 5 HX.out.op (by decide) (by decide) (by decide) w2).mono ?_
   rintro e w3 ⟨m, rfl, lo, hi, rfl⟩
   exact hK _ _ (hJ.plain (by rw [hls]; decide) hFst (by decide) (Ex.refl _) (by rw [hT]; exact ⟨m, rfl, lo, hi⟩) nh)
  ·have q1 := hout 1 ob
   rw [gd9] at q1
   clear hsz hdep hout hlat
   go_simp
   exact hK _ _ (hJ.plain (by rw [hls]; decide) hFst (by decide) (Ex.refl _) (by rw [hT]; first | rfl | exact congrArg (Value.int .i64) (by omega) | exact congrArg (Value.int .i64) (by rw [IntKind.wrap_i64]; omega)) nh)
  ·have q12 := hJ.iw hT (hdep ⟨3, .data⟩ (by simp) rfl) rfl rfl _ rfl _ rfl
   have hcut : listed.getD 18 false = false := by
    cases hc : listed.getD 18 false with
    | false => rfl
    | true =>
     have hc0 := hJ.ord (18, 4) (by simp) hc
     exact absurd hc0 (by rw [hun]; decide)
   have hpre := hJ.pre hcut
   rw [gd9] at q12
   have c6 := (A0.out.ext hpre).at.2.2.1
   have HF := Hi (hK (.int .i64 x.id) w2 (hJ.plain (by rw [hls]; decide) hFst (by decide) (Ex.refl _) (by rw [hT]; rfl) nh))
   clear hsz hdep hout hlat hpre hcut hJ hK
   go_simp
   exact HF.out
  ·have q13 := hJ.iv hT (hdep ⟨4, .data⟩ (by simp) rfl) rfl rfl _ rfl _ rfl
   clear hsz hdep hout hlat
   go_simp
   refine (kid9_any x.id HX.out.id w2).mono ?_
   rintro e w3 ⟨l, rfl, ln, x3⟩
   exact hK _ _ (hJ.plain (by rw [hls]; decide) hFst (by decide) x3 (by rw [hT]; exact ⟨l, rfl, ln⟩) nh)
  ·have q1 := hout 1 ob
   rw [gd9] at q1
   clear hsz hdep hout hlat
   go_simp
   exact hK _ _ (hJ.plain (by rw [hls]; decide) hFst (by decide) (Ex.refl _) (by rw [hT]; first | rfl | exact congrArg (Value.int .i64) (by omega) | exact congrArg (Value.int .i64) (by rw [IntKind.wrap_i64]; omega)) nh)
  ·have q15 := hJ.iw hT (hdep ⟨6, .data⟩ (by simp) rfl) rfl rfl _ rfl _ rfl
   have hcut : listed.getD 18 false = false := by
    cases hc : listed.getD 18 false with
    | false => rfl
    | true =>
     have hc0 := hJ.ord (18, 7) (by simp) hc
     exact absurd hc0 (by rw [hun]; decide)
   have hpre := hJ.pre hcut
   rw [gd9] at q15
   have c6 := (A0.out.ext hpre).at.2.2.2.1
   have HF := Hi (hK (.int .i64 x.pin) w2 (hJ.plain (by rw [hls]; decide) hFst (by decide) (Ex.refl _) (by rw [hT]; rfl) nh))
   clear hsz hdep hout hlat hpre hcut hJ hK
   go_simp
   exact HF.out
  ·have q16 := hJ.iv hT (hdep ⟨7, .data⟩ (by simp) rfl) rfl rfl _ rfl _ rfl
   clear hsz hdep hout hlat
   go_simp
   refine (kpin9_any x.pin HX.out.pin w2).mono ?_
   rintro e w3 ⟨s, rfl, sn, x3⟩
   exact hK _ _ (hJ.plain (by rw [hls]; decide) hFst (by decide) x3 (by rw [hT]; exact ⟨s, rfl, sn⟩) nh)
  ·have q1 := hout 1 ob
   rw [gd9] at q1
   clear hsz hdep hout hlat
   go_simp
   exact hK _ _ (hJ.plain (by rw [hls]; decide) hFst (by decide) (Ex.refl _) (by rw [hT]; first | rfl | exact congrArg (Value.int .i64) (by omega) | exact congrArg (Value.int .i64) (by rw [IntKind.wrap_i64]; omega)) nh)
  ·have q18 := hJ.iw hT (hdep ⟨9, .data⟩ (by simp) rfl) rfl rfl _ rfl _ rfl
   have hcut : listed.getD 18 false = false := by
    cases hc : listed.getD 18 false with
    | false => rfl
    | true =>
     have hc0 := hJ.ord (18, 10) (by simp) hc
     exact absurd hc0 (by rw [hun]; decide)
   have hpre := hJ.pre hcut
   rw [gd9] at q18
   have c6 := (A0.out.ext hpre).at.2.2.2.2.2.2
   rw [show x.sec.V = .slice x.sec.ad x.sec.l.length x.sec.cap from rfl] at c6
   have HF := Hi (hK (x.sec.V) w2 (hJ.plain (by rw [hls]; decide) hFst (by decide) (Ex.refl _) (by rw [hT]; rfl) nh))
   clear hsz hdep hout hlat hpre hcut hJ hK
   go_simp
   exact HF.out
  ·have q19 := hJ.iw hT (hdep ⟨10, .data⟩ (by simp) rfl) rfl rfl _ rfl _ rfl
   have hcut : listed.getD 18 false = false := by
    cases hc : listed.getD 18 false with
    | false => rfl
    | true =>
     have hc0 := hJ.ord (18, 11) (by simp) hc
     exact absurd hc0 (by rw [hun]; decide)
   have hpre := hJ.pre hcut
   rw [gd9] at q19
   have SI := Hi (HX.out.sec.ext (Ex.trans BW.out hpre))
   clear hsz hdep hout hlat hpre hcut
   go_simp
   refine (cut_any x.sec 70 (by decide) (by decide) hlen.out w2 SI.out).mono ?_
   rintro e w3 ⟨rfl, rfl⟩
   exact hK _ _ (hJ.plain (by rw [hls]; decide) hFst (by decide) (Ex.refl _) (by rw [hT]; rfl) nh)
  ·have q1 := hout 1 ob
   rw [gd9] at q1
   clear hsz hdep hout hlat
   go_simp
   exact hK _ _ (hJ.plain (by rw [hls]; decide) hFst (by decide) (Ex.refl _) (by rw [hT]; first | rfl | exact congrArg (Value.int .i64) (by omega) | exact congrArg (Value.int .i64) (by rw [IntKind.wrap_i64]; omega)) nh)
  ·have q21 := hJ.iw hT (hdep ⟨12, .data⟩ (by simp) rfl) rfl rfl _ rfl _ rfl
   have hcut : listed.getD 18 false = false := by
    cases hc : listed.getD 18 false with
    | false => rfl
    | true =>
     have hc0 := hJ.ord (18, 13) (by simp) hc
     exact absurd hc0 (by rw [hun]; decide)
   have hpre := hJ.pre hcut
   rw [gd9] at q21
   have c6 := (A0.out.ext hpre).at.2.2.2.2.1
   have HF := Hi (hK (.int .i64 x.lim) w2 (hJ.plain (by rw [hls]; decide) hFst (by decide) (Ex.refl _) (by rw [hT]; rfl) nh))
   clear hsz hdep hout hlat hpre hcut hJ hK
   go_simp
   exact HF.out
  ·have q22 := hJ.iv hT (hdep ⟨13, .data⟩ (by simp) rfl) rfl rfl _ rfl _ rfl
   clear hsz hdep hout hlat
   go_simp
   refine (within_any x.lim 0 33 HX.out.lim (by decide) (by decide) (by decide) w2).mono ?_
   rintro e w3 ⟨m, rfl, lo, hi, rfl⟩
   exact hK _ _ (hJ.plain (by rw [hls]; decide) hFst (by decide) (Ex.refl _) (by rw [hT]; exact ⟨m, rfl, lo, hi⟩) nh)
  ·have q1 := hout 1 ob
   rw [gd9] at q1
   clear hsz hdep hout hlat
   go_simp
   exact hK _ _ (hJ.plain (by rw [hls]; decide) hFst (by decide) (Ex.refl _) (by rw [hT]; first | rfl | exact congrArg (Value.int .i64) (by omega) | exact congrArg (Value.int .i64) (by rw [IntKind.wrap_i64]; omega)) nh)
  ·have q24 := hJ.iw hT (hdep ⟨15, .data⟩ (by simp) rfl) rfl rfl _ rfl _ rfl
   have hcut : listed.getD 18 false = false := by
    cases hc : listed.getD 18 false with
    | false => rfl
    | true =>
     have hc0 := hJ.ord (18, 16) (by simp) hc
     exact absurd hc0 (by rw [hun]; decide)
   have hpre := hJ.pre hcut
   rw [gd9] at q24
   have c6 := (A0.out.ext hpre).at.2.2.2.2.2.1
   have HF := Hi (hK (.string x.own) w2 (hJ.plain (by rw [hls]; decide) hFst (by decide) (Ex.refl _) (by rw [hT]; rfl) nh))
   clear hsz hdep hout hlat hpre hcut hJ hK
   go_simp
   exact HF.out
  ·have dd11 := hdep ⟨2, .data⟩ (by simp) rfl
   have q11 := dd11.2 _ rfl _ rfl
   have h11 := hJ.vals 2 dd11.1 (fun c hc => by have hc : some 17 = some c := hc; cases hc; exact hun)
   rw [hT] at h11
   have h11 : (fun v W => ∃ m : Int, v = .int .i64 m ∧ 0 ≤ m ∧ m ≤ 5) (f 2) w2 := h11
   obtain ⟨m11, e11, lo11, hi11⟩ := h11
   rw [e11] at q11
   clear e11
   clear dd11
   have dd14 := hdep ⟨5, .data⟩ (by simp) rfl
   have q14 := dd14.2 _ rfl _ rfl
   have h14 := hJ.vals 5 dd14.1 (fun c hc => by have hc : some 17 = some c := hc; cases hc; exact hun)
   rw [hT] at h14
   have h14 : (fun v W => ∃ l : List UInt8, v = digV l ∧ l.length = 4) (f 5) w2 := h14
   obtain ⟨l14, e14, n14⟩ := h14
   rw [e14] at q14
   clear e14
   clear dd14
   have dd17 := hdep ⟨8, .data⟩ (by simp) rfl
   have q17 := dd17.2 _ rfl _ rfl
   have h17 := hJ.vals 8 dd17.1 (fun c hc => by have hc : some 17 = some c := hc; cases hc; exact hun)
   rw [hT] at h17
   have h17 : (fun v W => ∃ s : ByteArray, v = .string s ∧ s.size ≤ 100) (f 8) w2 := h17
   obtain ⟨s17, e17, n17⟩ := h17
   rw [e17] at q17
   clear e17
   clear dd17
   have q20 := hJ.iw hT (hdep ⟨11, .data⟩ (by simp) rfl) rfl rfl _ rfl _ rfl
   have dd23 := hdep ⟨14, .data⟩ (by simp) rfl
   have q23 := dd23.2 _ rfl _ rfl
   have h23 := hJ.vals 14 dd23.1 (fun c hc => by have hc : some 17 = some c := hc; cases hc; exact hun)
   rw [hT] at h23
   have h23 : (fun v W => ∃ m : Int, v = .int .i64 m ∧ 0 ≤ m ∧ m ≤ 33) (f 14) w2 := h23
   obtain ⟨m23, e23, lo23, hi23⟩ := h23
   rw [e23] at q23
   clear e23
   clear dd23
   have q25 := hJ.iw hT (hdep ⟨16, .data⟩ (by simp) rfl) rfl rfl _ rfl _ rfl
   refine wp_build _ _ rfl (Wt.mk m11 l14 s17 (cutP x) m23 x.own).C.toArray ?_ (hK _ _ (hJ.plain (by rw [hls]; decide) hFst (by decide) (Ex.refl _) (by rw [hT]; exact ⟨⟨m11, l14, s17, cutP x, m23, x.own⟩, rfl, ⟨by show (-9223372036854775808 : Int) ≤ m11; omega, by show m11 ≤ 9223372036854775807; omega, n14, by show (-9223372036854775808 : Int) ≤ m23; omega, by show m23 ≤ 9223372036854775807; omega, by show s17.size ≤ _; omega, HX.out.own, by show (x.sec.l.take 70).length ≤ _; rw [List.length_take]; omega⟩, rfl⟩) nh))
   show Try.prog.built 31 [(0, a.tmps.getD 11 undef), (1, a.tmps.getD 14 undef), (2, a.tmps.getD 17 undef), (3, a.tmps.getD 20 undef), (4, a.tmps.getD 23 undef), (5, a.tmps.getD 25 undef)] = _
   rw [q11, q14, q17, q20, q23, q25]
   exact built_wish m11 l14 s17 (cutP x) m23 x.own n14
  have q2 := hout 2 ob
  have dd26 := hdep ⟨17, .data⟩ (by simp) rfl
  have q26 := dd26.2 _ rfl _ rfl
  have h26 := hJ.vals 17 dd26.1 (fun c hc => by have hc : some 18 = some c := hc; cases hc; exact hun)
  rw [hT] at h26
  have h26 : (fun v W => ∃ y : Wt, v = y.V ∧ y.Ok ∧ y.sec = cutP x) (f 17) w2 := h26
  obtain ⟨y26, e26, ok26, ys26⟩ := h26
  rw [e26] at q26
  clear e26
  clear dd26
  have hl1 := (hdep ⟨1, .phase⟩ (by simp) rfl).1
  have hl4 := (hdep ⟨4, .phase⟩ (by simp) rfl).1
  have hl7 := (hdep ⟨7, .phase⟩ (by simp) rfl).1
  have hl10 := (hdep ⟨10, .phase⟩ (by simp) rfl).1
  have hl13 := (hdep ⟨13, .phase⟩ (by simp) rfl).1
  have hl16 := (hdep ⟨16, .phase⟩ (by simp) rfl).1
  have hl11 := (hdep ⟨11, .phase⟩ (by simp) rfl).1
  have hord : ∀ x ∈ ([(18, 1), (18, 4), (18, 7), (18, 10), (18, 13), (18, 16), (18, 11)] : List (Nat × Nat)), x.1 = 18 → listed.getD x.2 false = true := (by intro x hx he; simp only [List.mem_cons, List.not_mem_nil, or_false] at hx; rcases hx with rfl | rfl | rfl | rfl | rfl | rfl | rfl; all_goals first | (exact absurd he (by decide)) | assumption)
  have hcut := hun
  have hpre := hJ.pre hcut
  have hc1 : ∀ j, j ≠ 18 → ([true, true, false, true, true, false, true, true, false, true, true, true, true, true, false, true, true, false, true] : List Bool).getD j true = false → listed.getD j false = true → ∃ c, (([none, none, some 17, none, none, some 17, none, none, some 17, none, none, none, none, none, some 17, none, none, some 18, none] : List (Option Nat))).getD j none = some c ∧ (c = 18 ∨ listed.getD c false = true) := by
   intro j hj hfj hl
   have hm : j = 2 ∨ j = 5 ∨ j = 8 ∨ j = 14 ∨ j = 17 := by
    rcases Nat.lt_or_ge j 19 with h | h
    ·have hk : j = 0 ∨ j = 1 ∨ j = 2 ∨ j = 3 ∨ j = 4 ∨ j = 5 ∨ j = 6 ∨ j = 7 ∨ j = 8 ∨ j = 9 ∨ j = 10 ∨ j = 11 ∨ j = 12 ∨ j = 13 ∨ j = 14 ∨ j = 15 ∨ j = 16 ∨ j = 17 ∨ j = 18 := by omega
     rcases hk with rfl | rfl | rfl | rfl | rfl | rfl | rfl | rfl | rfl | rfl | rfl | rfl | rfl | rfl | rfl | rfl | rfl | rfl | rfl <;> first | (exact absurd hfj (by decide)) | simp
    ·rw [List.getD_eq_getElem?_getD, List.getElem?_eq_none (by simpa using h)] at hfj; cases hfj
   rcases hm with rfl | rfl | rfl | rfl | rfl
   iterate 4
    focus
     exact ⟨17, rfl, Or.inr (hdep ⟨17, .data⟩ (by simp) rfl).1⟩
   ·exact ⟨18, rfl, Or.inl rfl⟩
  refine st_w (.tmp 2) (.tmp 26) (g + 1) y26 rfl q2 q26 ok26 (Z0.out.ext hpre) zeroWt_len (fun w9 hd ho => ?_)
  exact hK _ _ (hJ.mod (by rw [hls]; decide) HFX (by rw [hT]; trivial) hc1 (Or.inl rfl) (fun _ => ⟨y26, hd, ys26, ho.below w.heap.size (by have := HG.out; omega) _ (Ex.trans BW.out hpre)⟩) hord)
 intro listed f w2 hall hJ
 have xf : (fun W => ∃ y9 : Wt, WB W (g + 1) y9 ∧ y9.sec = cutP x ∧ Ex w W) w2 := hJ.fin (hall 18 (by simp))
 simp only [putAll, Act.put, List.setIfInBounds_toArray, List.set_cons_zero, List.set_cons_succ, Nat.zero_add, Nat.reduceAdd]
 clear hJ hall hT HFX hFst
 generalize f 0 = y0
 generalize f 1 = y1
 generalize f 2 = y2
 generalize f 3 = y3
 generalize f 4 = y4
 generalize f 5 = y5
 generalize f 6 = y6
 generalize f 7 = y7
 generalize f 8 = y8
 generalize f 9 = y9
 generalize f 10 = y10
 generalize f 11 = y11
 generalize f 12 = y12
 generalize f 13 = y13
 generalize f 14 = y14
 generalize f 15 = y15
 generalize f 16 = y16
 generalize f 17 = y17
 obtain ⟨y9, h1, h2, h3⟩ := xf
 have H1 := Hi h1
 have H2 := Hi h2
 have H3 := Hi h3
 clear h1 h2 h3
 go_wp2_with fail
 exact bodyPost_ret (res_w rfl _ _ (g + 1) rfl y9 H1.out) rfl ⟨y9, rfl, ⟨H1.out.1, by rw [H2.out]; exact bcut_in (HX.out.sec.ext H3.out) 70⟩, H3.out, Or.inr H2.out⟩
end Go.Proofs.Ytopamplmpfndlaa.Cl
namespace Go.Proofs.Ytopamplmpfndlaa.Cl
open Go.RowKit
theorem Try.sizeAk : (Try.prog.info? 33).map (·.size) = some 30 := by kernel_rfl
section
variable {o : Oper} {a : Act} {w : World} {K : Act → World → Prop} {Q : Exit → Act → World → Prop}
theorem ld_ask (x : Operand) (g : Nat) (v : Ak) (ho : o.op = .load 33 x) (ha : a.eval x = .pointer (some ⟨g, 0, none⟩)) {w9 : World} (hv : AI w9 v) (h : AB w g v) (hk : K (a.put o.dst v.V) w) : o.wp Try.prog a w K Q := by
 obtain ⟨dd, hd⟩ : ∃ d, Try.prog.underlying 33 = some d ∧ d.isRow = true := ⟨_, Try.underlying33, rfl⟩
 exact wp_ldp (C := v.C) v.C x g 0 dd ho ha h (by simp) hd.1 hd.2 (by rw [Try.sizeAk, Ak.len hv]) hk
end
def WS (base : World) (l : Array Bool) (f : Nat → Value) (W : World) : Prop := Ex base W ∧ (l.getD 6 false = true → ∃ y : Wt, f 6 = y.V ∧ WI W y)
section
variable {base W W' : World} {l : Array Bool} {f : Nat → Value}
theorem WS.step (h : WS base l f W) {i : Nat} {v : Value} (hi : i ≠ 6) (x : Ex W W') : WS base (l.setIfInBounds i true) (upd f i v) W' := by
 unfold WS
 rw [gset hi, upd_ne _ _ (Ne.symm hi)]
 refine ⟨h.1.trans x, fun e => ?_⟩
 obtain ⟨y, a, b⟩ := h.2 e
 exact ⟨y, a, b.ext x⟩
theorem WS.wish (h : WS base l f W) (x : Ex W W') (y : Wt) (hy : WI W' y) : WS base (l.setIfInBounds 6 true) (upd f 6 y.V) W' :=
 ⟨h.1.trans x, fun _ => ⟨y, upd_same _ _ _, hy⟩⟩
end
end Go.Proofs.Ytopamplmpfndlaa.Cl
namespace Go.Proofs.Ytopamplmpfndlaa.Cl
open Go.RowKit
theorem repB_len {c : Rc} (hid : c.id.length = 4) (hs : c.sec.length ≤ 64) : (repB c).length ≤ 8176 := by
 unfold repB
 have hl : ∀ n : Int, (Sm.numL n).length = 8 := fun _ => rfl
 simp only [List.length_append, List.length_cons, List.length_nil, hid, hl]
 omega
end Go.Proofs.Ytopamplmpfndlaa.Cl
namespace Go.Proofs.Ytopamplmpfndlaa.Cl
open Go.ChangeShapes Go.WideShapes Go.ChangeAt Go.RowKit Go.Deep
theorem Try.cells5 : Try.prog.cellsOf 5 = 1 := by kernel_rfl
theorem wf_i64 {n : Int} (h : (Lit.int .i64 n).wf = true) : -9223372036854775808 ≤ n ∧ n ≤ 9223372036854775807 := by
 simp [Lit.wf, IntKind.min, IntKind.max, IntKind.signed, IntKind.bits] at h; omega
structure Akp (W : World) (ad : Option Addr) (cap : Nat) (l : List Ak) : Prop where
 le : l.length ≤ cap
 nil : ad = none → cap = 0
 ins : ∀ (i : Nat) (x : Ak), l[i]? = some x → AI W x
 read : 0 < l.length → ∃ a o, ad = some ⟨a, o, none⟩ ∧ a < W.heap.size ∧ ∀ (i : Nat) (x : Ak), l[i]? = some x → ∀ (j : Nat) (u : Value), x.C[j]? = some u → W.cell? ⟨a, o + i * 30 + j, none⟩ = some u
end Go.Proofs.Ytopamplmpfndlaa.Cl
namespace Go.Proofs.Ytopamplmpfndlaa.Cl
open Go.RowKit
section
variable {o : Oper} {a : Act} {w : World} {K : Act → World → Prop} {Q : Exit → Act → World → Prop}
theorem ld_askr (y : Operand) (g off : Nat) (x : Ak) {w9 : World} (hv : AI w9 x) (ho : o.op = .load 33 y) (ha : a.eval y = .pointer (some ⟨g, off, none⟩)) (h : w.rangeAt g off x.C) (hk : K (a.put o.dst x.V) w) : o.wp Try.prog a w K Q := by
 obtain ⟨dd, hd⟩ : ∃ d, Try.prog.underlying 33 = some d ∧ d.isRow = true := ⟨_, Try.underlying33, rfl⟩
 exact wp_load_mid 33 y ho g off ha x.C dd h hd.1 hd.2 (by rw [Try.sizeAk, Ak.len hv]) hk
end
def tupA (i : Nat) : Value → Value
 | .tuple a => a.getD i undef
 | _ => undef
def NL : List (Nat × (Value → Value)) := [(13, id), (14, tupA 0), (15, tupA 1), (16, tupA 2), (18, tupA 0), (20, tupA 2)]
def NV (l : Array Bool) (f : Nat → Value) : Prop := ∀ p ∈ NL, l.getD p.1 false = true → f p.1 = p.2 (f 12)
theorem NV.next {l : Array Bool} {f : Nat → Value} (h : NV l f) {i : Nat} {v : Value} (hi : i ≠ 12) (hv : ∀ p ∈ NL, p.1 = i → v = p.2 (f 12)) : NV (l.setIfInBounds i true) (upd f i v) := by
 intro p hp hl
 rw [upd_ne _ _ (Ne.symm hi)]
 by_cases e : p.1 = i
 ·rw [e, upd_same]; exact hv p hp e
 rw [upd_ne _ _ e]
 exact h p hp (by rw [gset (fun e2 => e e2.symm)] at hl; exact hl)
theorem NV.call {l : Array Bool} {f : Nat → Value} {v : Value} (hn : ∀ p ∈ NL, l.getD p.1 false = false) : NV (l.setIfInBounds 12 true) (upd f 12 v) := by
 intro p hp hl
 have h12 : p.1 ≠ 12 := by
  unfold NL at hp
  simp only [List.mem_cons, List.not_mem_nil, or_false] at hp
  rcases hp with rfl | rfl | rfl | rfl | rfl | rfl <;> decide
 rw [gset (fun e => h12 e.symm), hn p hp] at hl
 cases hl
structure NC (base0 base W : World) (C : Nat) (k : List UInt8) (got : List Bool) (l : Array Bool) (f : Nat → Value) : Prop where
 pre : l.getD 12 false = false → ∃ rv, CS base0 W C 0 k rv got
 wish : l.getD 12 false = false → l.getD 11 false = true → ∃ y : Wt, f 11 = y.V ∧ WI W y
 blk : l.getD 17 false = true → ∃ i, f 17 = ptr0 i ∧ base0.heap.size ≤ i ∧ (l.getD 19 false = false → Bk W i 47 zeroQt.C.toArray)
 post : l.getD 12 false = true → ∃ (r : Pt) (q : Qt) (R : List UInt8 × Qc × Int) (rv : Value), f 12 = .tuple #[r.V, q.V, .int .i64 R.2.2] ∧ (∃ (m : Int) (y : Wc), 0 ≤ m ∧ m ≤ 7 ∧ R = makeF 0 got.length k m y) ∧ r.l = R.1 ∧ q.ct = R.2.1 ∧ PN W 0 r ∧ q.Ok ∧ PN W 0 q.sec ∧ CS base0 W C 0 k rv (gotM got R) ∧ (l.getD 19 false = true → ∃ i, f 17 = ptr0 i ∧ QB W i q)
section
variable {base0 base W W' : World} {C : Nat} {k : List UInt8} {got : List Bool} {l : Array Bool} {f : Nat → Value}
theorem NC.ex (h : NC base0 base W C k got l f) {i : Nat} {v : Value} (h11 : i ≠ 11) (h12 : i ≠ 12) (h17 : i ≠ 17) (h19 : i ≠ 19) (x : Ex W W') : NC base0 base W' C k got (l.setIfInBounds i true) (upd f i v) := by
 refine ⟨fun e => ?_, fun e e2 => ?_, fun e => ?_, fun e => ?_⟩
 ·rw [gset h12] at e
  obtain ⟨rv, hs⟩ := h.pre e
  exact ⟨rv, hs.ext x⟩
 ·rw [gset h12] at e
  rw [gset h11] at e2
  rw [upd_ne _ _ (Ne.symm h11)]
  obtain ⟨y, a, b⟩ := h.wish e e2
  exact ⟨y, a, b.ext x⟩
 ·rw [gset h17] at e
  rw [gset h19, upd_ne _ _ (Ne.symm h17)]
  obtain ⟨i, a, b, c⟩ := h.blk e
  exact ⟨i, a, b, fun e9 => (c e9).ext x⟩
 rw [gset h12] at e
 rw [gset h19, upd_ne _ _ (Ne.symm h12), upd_ne _ _ (Ne.symm h17)]
 obtain ⟨r, q, R, rv, a, b, c, d, e1, e2, e3, e4, e5⟩ := h.post e
 exact ⟨r, q, R, rv, a, b, c, d, e1.ext x, e2, e3.ext x, e4.ext x, fun e9 => (e5 e9).elim fun i hi => ⟨i, hi.1, hi.2.ext x⟩⟩
theorem NC.alloc (h : NC base0 base W C k got l f) (n19 : l.getD 19 false = false) (hb : base0.heap.size ≤ W.heap.size) : NC base0 base (W.alloc (.cells zeroQt.C.toArray 47)) C k got (l.setIfInBounds 17 true) (upd f 17 (ptr0 W.heap.size)) := by
 have x : Ex W (W.alloc (.cells zeroQt.C.toArray 47)) := Ex.alloc _ _
 refine ⟨fun e => ?_, fun e e2 => ?_, fun e => ⟨_, upd_same _ _ _, hb, fun _ => Bk.new rfl _ _⟩, fun e => ?_⟩
 ·rw [gset (by decide)] at e
  obtain ⟨rv, hs⟩ := h.pre e
  exact ⟨rv, hs.ext x⟩
 ·rw [gset (by decide)] at e
  rw [gset (by decide)] at e2
  rw [upd_ne _ _ (by decide)]
  obtain ⟨y, a, b⟩ := h.wish e e2
  exact ⟨y, a, b.ext x⟩
 rw [gset (by decide)] at e
 rw [gset (by decide), upd_ne _ _ (by decide)]
 obtain ⟨r, q, R, rv, a, b, c, d, e1, e2, e3, e4, e5⟩ := h.post e
 refine ⟨r, q, R, rv, a, b, c, d, e1.ext x, e2, e3.ext x, e4.ext x, fun e9 => ?_⟩
 rw [n19] at e9; cases e9
theorem NC.call (h : NC base0 base W C k got l f) (n19 : l.getD 19 false = false) (hsz : 12 < l.size) {r : Pt} {q : Qt} {R : List UInt8 × Qc × Int} {rv rv' : Value} (hs : CS base0 W C 0 k rv got) (hR : ∃ (m : Int) (y : Wc), 0 ≤ m ∧ m ≤ 7 ∧ R = makeF 0 got.length k m y) (h1 : r.l = R.1) (h2 : q.ct = R.2.1) (h3 : PN W' 0 r) (h4 : q.Ok) (h5 : PN W' 0 q.sec) (t : Tc C rv.ownBlock W W') (hc : CI W' base0.heap.size C 0 k rv' (gotM got R)) :
  NC base0 base W' C k got (l.setIfInBounds 12 true) (upd f 12 (.tuple #[r.V, q.V, .int .i64 R.2.2])) := by
 refine ⟨fun e => ?_, fun e => ?_, fun e => ?_, fun _ => ⟨r, q, R, rv', upd_same _ _ _, hR, h1, h2, h3, h4, h5, hs.tc t hc, fun e9 => ?_⟩⟩
 ·exact absurd e (by rw [set_new hsz]; decide)
 ·exact absurd e (by rw [set_new hsz]; decide)
 ·rw [gset (by decide)] at e
  rw [gset (by decide), upd_ne _ _ (by decide)]
  obtain ⟨i, a, b, c⟩ := h.blk e
  refine ⟨i, a, b, fun e9 => ?_⟩
  have hb := c e9
  refine t.bk hb ?_ (ownB_ne hs.c.row hb (by decide))
  rintro rfl
  exact absurd (Bk.ty hb hs.c.blk) (by decide)
 rw [gset (by decide), n19] at e9; cases e9
end
theorem NC.store {base0 base W W' : World} {C : Nat} {k : List UInt8} {got : List Bool} {l : Array Bool} {f : Nat → Value} {v : Value} (h : NC base0 base W C k got l f) (n19 : l.getD 19 false = false) (l12 : l.getD 12 false = true) (l17 : l.getD 17 false = true) (hsz : 19 < l.size)
  {r : Pt} {q : Qt} {i : Nat} {R : List UInt8 × Qc × Int} {rv : Value} (he : f 12 = .tuple #[r.V, q.V, .int .i64 R.2.2]) (hR : ∃ (m : Int) (y : Wc), 0 ≤ m ∧ m ≤ 7 ∧ R = makeF 0 got.length k m y) (h1 : r.l = R.1) (h2 : q.ct = R.2.1) (h3 : PN W 0 r) (h4 : q.Ok) (h5 : PN W 0 q.sec) (hs : CS base0 W C 0 k rv (gotM got R))
  (hi : f 17 = ptr0 i) (hlo : base0.heap.size ≤ i) (hB : Bk W i 47 zeroQt.C.toArray) (hd : QB W' i q) (ho : Only i W W') : NC base0 base W' C k got (l.setIfInBounds 19 true) (upd f 19 v) := by
 refine ⟨fun e => ?_, fun e => ?_, fun e => ⟨i, by rw [upd_ne _ _ (by decide)]; exact hi, hlo, fun e9 => ?_⟩, fun _ => ⟨r, q, R, rv, by rw [upd_ne _ _ (by decide)]; exact he, hR, h1, h2, h3.onlyT ho hB (by decide), h4, h5.onlyT ho hB (by decide), ⟨?_, hs.c.only9 ho hB (by decide) (by decide)⟩, fun _ => ⟨i, by rw [upd_ne _ _ (by decide)]; exact hi, hd⟩⟩⟩
 ·rw [gset (by decide), l12] at e; cases e
 ·rw [gset (by decide), l12] at e; cases e
 ·exact absurd e9 (by rw [set_new hsz]; decide)
 exact ho.below base0.heap.size hlo _ hs.x
end Go.Proofs.Ytopamplmpfndlaa.Cl
