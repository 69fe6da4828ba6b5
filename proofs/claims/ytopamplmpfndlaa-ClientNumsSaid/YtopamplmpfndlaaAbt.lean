/- Ct, De -/
import Derived.Test.YtopamplmpfndlaaAbs
set_option maxRecDepth 100000
set_option maxHeartbeats 16000000
namespace Go.Proofs.Ytopamplmpfndlaa.Cl
open Go.RowKit
def WishPost (w : World) (e : Ending) (w' : World) : Prop := ∃ W : Wt, e = .returned W.V ∧ WI w' W ∧ Ex w w'
def zeroWt : Wt := ⟨0, z4, ⟨#[]⟩, nilB, 0, ⟨#[]⟩⟩
theorem zeroWt_len : zeroWt.C.toArray.size = 9 := rfl
theorem AB.ext {w w' : World} {g : Nat} {x : Ak} (h : AB w g x) (k : Ex w w') : AB w' g x := Bk.ext h k
def cutP (x : Ak) : Pt := ⟨x.sec.ad, x.sec.cap, x.sec.l.take 70⟩
def Wish2Post (x : Ak) (w : World) (e : Ending) (w' : World) : Prop := ∃ W : Wt, e = .returned W.V ∧ WI w' W ∧ Ex w w' ∧ (W.sec = x.raw.sec ∨ W.sec = cutP x)
theorem wish2_any (x : Ak) (w : World) (hx : AI w x) : Calls Try.prog 17 #[x.V] w (Wish2Post x w) := by
  obtain ⟨ds, hds⟩ : ∃ ds, ds = x.C.toArray := ⟨_, rfl⟩
  have A0 : Hid (AB ((w.alloc (.cells ds 33)).alloc (.cells zeroWt.C.toArray 31)) w.heap.size x) := Hi (by rw [hds]; exact (Bk.new rfl _ _).more _)
  have Z0 : Hid (Bk ((w.alloc (.cells ds 33)).alloc (.cells zeroWt.C.toArray 31)) (w.heap.size + 1) 31 zeroWt.C.toArray) := Hi (Bk.new (by simp) _ _)
  have BW : Hid (Ex w ((w.alloc (.cells ds 33)).alloc (.cells zeroWt.C.toArray 31))) := Hi (Ex.trans (Ex.alloc _ _) (Ex.alloc _ _))
  have HX := Hi hx
  skip
  rw [show (Calls Try.prog 17 #[x.V] w) = (Calls Try.prog 17 #[.agg ds] w) by rw [hds]; rfl]
  have b0 := hx.turn.1
  have b1 := hx.turn.2
  have t0 : -16 < x.turn.tmod 16 := by have h := Int.tmod_lt_of_pos (-x.turn) (show (0 : Int) < 16 by decide); rw [Int.neg_tmod] at h; omega
  have t1 : x.turn.tmod 16 < 16 := Int.tmod_lt_of_pos x.turn (by decide)
  clear hds hx
  go_enter Try.func17, Try.ntmps17
  go_wp2_with ((with_reducible refine so4 [3] ?_ ?_); (focus rfl))
  (with_reducible refine ⟨?_⟩)
  change wpList _ _ _ _ _ ((w.alloc (.cells ds 33)).alloc (.cells zeroWt.C.toArray 31))
  generalize ((w.alloc (.cells ds 33)).alloc (.cells zeroWt.C.toArray 31)) = wr at A0 Z0 BW ⊢
  obtain ⟨g, hg⟩ : ∃ i, i = w.heap.size := ⟨_, rfl⟩
  have HG := Hi hg
  rw [← hg] at A0 Z0 ⊢
  clear hg
  obtain ⟨c3, c4, c5, c6, c7, c8, c9⟩ := A0.out.at
  by_cases ht : x.turn.tmod 16 = 15
  · skip
    go_wp2_with ((with_reducible refine so7 [31, 1000 + 31] ?_ ?_); (focus rfl))
    refine at9 (by go_simp) fun K0 hK => ld_araw _ g x rfl rfl HX.out A0.out (hK _ _ ?_)
    clear hK
    go_wp2_with ((with_reducible refine so7 [31, 1000 + 31] ?_ ?_); (focus rfl))
    refine at9 (by go_simp) fun K0 hK => st_w _ _ (g + 1) x.raw rfl rfl rfl HX.out.raw.ok Z0.out zeroWt_len (fun w9 hd ho => hK _ _ ?_)
    clear hK
    have XF := Hi (ho.below w.heap.size (by have := HG.out; omega) _ BW.out)
    have HD := Hi hd
    clear hd ho
    go_wp2_with fail
    exact bodyPost_ret (res_w rfl _ _ (g + 1) rfl x.raw HD.out) rfl ⟨x.raw, rfl, HX.out.raw.ext XF.out, XF.out, Or.inl rfl⟩
  have hlen : Hid (x.sec.l.length ≤ 9223372036854775807) := Hi (Nat.le_trans HX.out.secN (by decide))
  go_wp2_with fail
  clear c3 c4 c5 c6 c7 c8 c9 t0 t1 b0 b1 ht
  obtain ⟨T, hT⟩ : ∃ T : List Sx, T = [.is (.pointer (some ⟨g, 4, none⟩)), .is (.int .i64 x.op), .of (fun v W => ∃ m : Int, v = .int .i64 m ∧ 0 ≤ m ∧ m ≤ 5) (fun _ _ _ h _ => h), .is (.pointer (some ⟨g, 5, none⟩)), .is (.int .i64 x.id), .of (fun v W => ∃ l : List UInt8, v = digV l ∧ l.length = 4) (fun _ _ _ h _ => h), .is (.pointer (some ⟨g, 6, none⟩)), .is (.int .i64 x.pin), .of (fun v W => ∃ s : ByteArray, v = .string s ∧ s.size ≤ 100) (fun _ _ _ h _ => h), .is (.pointer (some ⟨g, 9, none⟩)), .is (x.sec.V), .is ((cutP x).V), .is (.pointer (some ⟨g, 7, none⟩)), .is (.int .i64 x.lim), .of (fun v W => ∃ m : Int, v = .int .i64 m ∧ 0 ≤ m ∧ m ≤ 33) (fun _ _ _ h _ => h), .is (.pointer (some ⟨g, 8, none⟩)), .is (.string x.own), .of (fun v W => ∃ y : Wt, v = y.V ∧ y.Ok ∧ y.sec = cutP x) (fun _ _ _ h _ => h), .any] := ⟨_, rfl⟩
  have HFX : T.map Sx.fixed = [true, true, false, true, true, false, true, true, false, true, true, true, true, true, false, true, true, false, true] := by rw [hT]; rfl
  have hFst : ∀ wa wb, (fun W => ∃ y9 : Wt, WB W (g + 1) y9 ∧ y9.sec = cutP x ∧ Ex w W) wa → Ex wa wb → (fun W => ∃ y9 : Wt, WB W (g + 1) y9 ∧ y9.sec = cutP x ∧ Ex w W) wb := fun _ _ ⟨y9, h1, h2, h3⟩ k => ⟨y9, h1.ext k, h2, Ex.trans h3 k⟩
  refine wp_region_gen (JE wr T ([none, none, some 17, none, none, some 17, none, none, some 17, none, none, none, none, none, some 17, none, none, some 18, none] : List (Option Nat)) ([(18, 1), (18, 4), (18, 7), (18, 10), (18, 13), (18, 16), (18, 11)] : List (Nat × Nat)) 18 18 (fun W => ∃ y9 : Wt, WB W (g + 1) y9 ∧ y9.sec = cutP x ∧ Ex w W)) (by kernel_rfl) (by kernel_rfl) (by kernel_rfl) (fitB_spec (by kernel_rfl)) (fun listed f h => JE.start listed f h) ?_ ?_
  · intro i o ho
    have hi : i < 19 := (Array.getElem?_eq_some_iff.1 ho).1
    have hi' : i = 0 ∨ i = 1 ∨ i = 2 ∨ i = 3 ∨ i = 4 ∨ i = 5 ∨ i = 6 ∨ i = 7 ∨ i = 8 ∨ i = 9 ∨ i = 10 ∨ i = 11 ∨ i = 12 ∨ i = 13 ∨ i = 14 ∨ i = 15 ∨ i = 16 ∨ i = 17 ∨ i = 18 := by omega
    clear hi
    rcases hi' with rfl | rfl | rfl | rfl | rfl | rfl | rfl | rfl | rfl | rfl | rfl | rfl | rfl | rfl | rfl | rfl | rfl | rfl | rfl
    all_goals (simp only [List.getElem?_toArray, List.getElem?_cons_zero, List.getElem?_cons_succ, Option.some.injEq] at ho; subst ho; intro listed f a w2 hJ hsz hls hun hdep hout hlat; first | (rw [if_pos (by rfl)]; intro K hK) | skip)
    · have q1 := hout 1 ob
      have hord : ∀ x ∈ ([(18, 1), (18, 4), (18, 7), (18, 10), (18, 13), (18, 16), (18, 11)] : List (Nat × Nat)), x.1 = 0 → listed.getD x.2 false = true := (by intro x hx he; simp only [List.mem_cons, List.not_mem_nil, or_false] at hx; rcases hx with rfl | rfl | rfl | rfl | rfl | rfl | rfl; all_goals first | (exact absurd he (by decide)) | assumption)
      rw [gd9] at q1
      clear hsz hdep hout hlat
      go_simp
      exact hK _ _ (hJ.plain (by rw [hls]; decide) hFst (by decide) (Ex.refl _) (by rw [hT]; first | rfl | exact congrArg (Value.int .i64) (by omega) | exact congrArg (Value.int .i64) (by rw [IntKind.wrap_i64]; omega)) hord)
    · have q9 := hJ.iw hT (hdep ⟨0, .data⟩ (by simp) rfl) rfl rfl _ rfl _ rfl
      have hord : ∀ x ∈ ([(18, 1), (18, 4), (18, 7), (18, 10), (18, 13), (18, 16), (18, 11)] : List (Nat × Nat)), x.1 = 1 → listed.getD x.2 false = true := (by intro x hx he; simp only [List.mem_cons, List.not_mem_nil, or_false] at hx; rcases hx with rfl | rfl | rfl | rfl | rfl | rfl | rfl; all_goals first | (exact absurd he (by decide)) | assumption)
      have hcut : listed.getD 18 false = false := by
        cases hc : listed.getD 18 false with
        | false => rfl
        | true =>
          have hc0 := hJ.ord (18, 1) (by simp) hc
          exact absurd hc0 (by rw [hun]; decide)
      have hpre := hJ.pre hcut
      rw [gd9] at q9
      have c6 := (A0.out.ext hpre).at.2.1
      have HF := Hi (hK (.int .i64 x.op) w2 (hJ.plain (by rw [hls]; decide) hFst (by decide) (Ex.refl _) (by rw [hT]; rfl) hord))
      clear hsz hdep hout hlat hpre hcut hJ hK
      go_simp
      exact HF.out
    · have q10 := hJ.iw hT (hdep ⟨1, .data⟩ (by simp) rfl) rfl rfl _ rfl _ rfl
      have hord : ∀ x ∈ ([(18, 1), (18, 4), (18, 7), (18, 10), (18, 13), (18, 16), (18, 11)] : List (Nat × Nat)), x.1 = 2 → listed.getD x.2 false = true := (by intro x hx he; simp only [List.mem_cons, List.not_mem_nil, or_false] at hx; rcases hx with rfl | rfl | rfl | rfl | rfl | rfl | rfl; all_goals first | (exact absurd he (by decide)) | assumption)
      rw [gd9] at q10
      clear hsz hdep hout hlat
      go_simp
      refine (within_any x.op 0 5 HX.out.op (by decide) (by decide) (by decide) w2).mono ?_
      rintro e w3 ⟨m, rfl, lo, hi, rfl⟩
      exact hK _ _ (hJ.plain (by rw [hls]; decide) hFst (by decide) (Ex.refl _) (by rw [hT]; exact ⟨m, rfl, lo, hi⟩) hord)
    · have q1 := hout 1 ob
      have hord : ∀ x ∈ ([(18, 1), (18, 4), (18, 7), (18, 10), (18, 13), (18, 16), (18, 11)] : List (Nat × Nat)), x.1 = 3 → listed.getD x.2 false = true := (by intro x hx he; simp only [List.mem_cons, List.not_mem_nil, or_false] at hx; rcases hx with rfl | rfl | rfl | rfl | rfl | rfl | rfl; all_goals first | (exact absurd he (by decide)) | assumption)
      rw [gd9] at q1
      clear hsz hdep hout hlat
      go_simp
      exact hK _ _ (hJ.plain (by rw [hls]; decide) hFst (by decide) (Ex.refl _) (by rw [hT]; first | rfl | exact congrArg (Value.int .i64) (by omega) | exact congrArg (Value.int .i64) (by rw [IntKind.wrap_i64]; omega)) hord)
    · have q12 := hJ.iw hT (hdep ⟨3, .data⟩ (by simp) rfl) rfl rfl _ rfl _ rfl
      have hord : ∀ x ∈ ([(18, 1), (18, 4), (18, 7), (18, 10), (18, 13), (18, 16), (18, 11)] : List (Nat × Nat)), x.1 = 4 → listed.getD x.2 false = true := (by intro x hx he; simp only [List.mem_cons, List.not_mem_nil, or_false] at hx; rcases hx with rfl | rfl | rfl | rfl | rfl | rfl | rfl; all_goals first | (exact absurd he (by decide)) | assumption)
      have hcut : listed.getD 18 false = false := by
        cases hc : listed.getD 18 false with
        | false => rfl
        | true =>
          have hc0 := hJ.ord (18, 4) (by simp) hc
          exact absurd hc0 (by rw [hun]; decide)
      have hpre := hJ.pre hcut
      rw [gd9] at q12
      have c6 := (A0.out.ext hpre).at.2.2.1
      have HF := Hi (hK (.int .i64 x.id) w2 (hJ.plain (by rw [hls]; decide) hFst (by decide) (Ex.refl _) (by rw [hT]; rfl) hord))
      clear hsz hdep hout hlat hpre hcut hJ hK
      go_simp
      exact HF.out
    · have q13 := hJ.iw hT (hdep ⟨4, .data⟩ (by simp) rfl) rfl rfl _ rfl _ rfl
      have hord : ∀ x ∈ ([(18, 1), (18, 4), (18, 7), (18, 10), (18, 13), (18, 16), (18, 11)] : List (Nat × Nat)), x.1 = 5 → listed.getD x.2 false = true := (by intro x hx he; simp only [List.mem_cons, List.not_mem_nil, or_false] at hx; rcases hx with rfl | rfl | rfl | rfl | rfl | rfl | rfl; all_goals first | (exact absurd he (by decide)) | assumption)
      rw [gd9] at q13
      clear hsz hdep hout hlat
      go_simp
      refine (kid9_any x.id HX.out.id w2).mono ?_
      rintro e w3 ⟨l, rfl, ln, x3⟩
      exact hK _ _ (hJ.plain (by rw [hls]; decide) hFst (by decide) x3 (by rw [hT]; exact ⟨l, rfl, ln⟩) hord)
    · have q1 := hout 1 ob
      have hord : ∀ x ∈ ([(18, 1), (18, 4), (18, 7), (18, 10), (18, 13), (18, 16), (18, 11)] : List (Nat × Nat)), x.1 = 6 → listed.getD x.2 false = true := (by intro x hx he; simp only [List.mem_cons, List.not_mem_nil, or_false] at hx; rcases hx with rfl | rfl | rfl | rfl | rfl | rfl | rfl; all_goals first | (exact absurd he (by decide)) | assumption)
      rw [gd9] at q1
      clear hsz hdep hout hlat
      go_simp
      exact hK _ _ (hJ.plain (by rw [hls]; decide) hFst (by decide) (Ex.refl _) (by rw [hT]; first | rfl | exact congrArg (Value.int .i64) (by omega) | exact congrArg (Value.int .i64) (by rw [IntKind.wrap_i64]; omega)) hord)
    · have q15 := hJ.iw hT (hdep ⟨6, .data⟩ (by simp) rfl) rfl rfl _ rfl _ rfl
      have hord : ∀ x ∈ ([(18, 1), (18, 4), (18, 7), (18, 10), (18, 13), (18, 16), (18, 11)] : List (Nat × Nat)), x.1 = 7 → listed.getD x.2 false = true := (by intro x hx he; simp only [List.mem_cons, List.not_mem_nil, or_false] at hx; rcases hx with rfl | rfl | rfl | rfl | rfl | rfl | rfl; all_goals first | (exact absurd he (by decide)) | assumption)
      have hcut : listed.getD 18 false = false := by
        cases hc : listed.getD 18 false with
        | false => rfl
        | true =>
          have hc0 := hJ.ord (18, 7) (by simp) hc
          exact absurd hc0 (by rw [hun]; decide)
      have hpre := hJ.pre hcut
      rw [gd9] at q15
      have c6 := (A0.out.ext hpre).at.2.2.2.1
      have HF := Hi (hK (.int .i64 x.pin) w2 (hJ.plain (by rw [hls]; decide) hFst (by decide) (Ex.refl _) (by rw [hT]; rfl) hord))
      clear hsz hdep hout hlat hpre hcut hJ hK
      go_simp
      exact HF.out
    · have q16 := hJ.iw hT (hdep ⟨7, .data⟩ (by simp) rfl) rfl rfl _ rfl _ rfl
      have hord : ∀ x ∈ ([(18, 1), (18, 4), (18, 7), (18, 10), (18, 13), (18, 16), (18, 11)] : List (Nat × Nat)), x.1 = 8 → listed.getD x.2 false = true := (by intro x hx he; simp only [List.mem_cons, List.not_mem_nil, or_false] at hx; rcases hx with rfl | rfl | rfl | rfl | rfl | rfl | rfl; all_goals first | (exact absurd he (by decide)) | assumption)
      rw [gd9] at q16
      clear hsz hdep hout hlat
      go_simp
      refine (kpin9_any x.pin HX.out.pin w2).mono ?_
      rintro e w3 ⟨s, rfl, sn, x3⟩
      exact hK _ _ (hJ.plain (by rw [hls]; decide) hFst (by decide) x3 (by rw [hT]; exact ⟨s, rfl, sn⟩) hord)
    · have q1 := hout 1 ob
      have hord : ∀ x ∈ ([(18, 1), (18, 4), (18, 7), (18, 10), (18, 13), (18, 16), (18, 11)] : List (Nat × Nat)), x.1 = 9 → listed.getD x.2 false = true := (by intro x hx he; simp only [List.mem_cons, List.not_mem_nil, or_false] at hx; rcases hx with rfl | rfl | rfl | rfl | rfl | rfl | rfl; all_goals first | (exact absurd he (by decide)) | assumption)
      rw [gd9] at q1
      clear hsz hdep hout hlat
      go_simp
      exact hK _ _ (hJ.plain (by rw [hls]; decide) hFst (by decide) (Ex.refl _) (by rw [hT]; first | rfl | exact congrArg (Value.int .i64) (by omega) | exact congrArg (Value.int .i64) (by rw [IntKind.wrap_i64]; omega)) hord)
    · have q18 := hJ.iw hT (hdep ⟨9, .data⟩ (by simp) rfl) rfl rfl _ rfl _ rfl
      have hord : ∀ x ∈ ([(18, 1), (18, 4), (18, 7), (18, 10), (18, 13), (18, 16), (18, 11)] : List (Nat × Nat)), x.1 = 10 → listed.getD x.2 false = true := (by intro x hx he; simp only [List.mem_cons, List.not_mem_nil, or_false] at hx; rcases hx with rfl | rfl | rfl | rfl | rfl | rfl | rfl; all_goals first | (exact absurd he (by decide)) | assumption)
      have hcut : listed.getD 18 false = false := by
        cases hc : listed.getD 18 false with
        | false => rfl
        | true =>
          have hc0 := hJ.ord (18, 10) (by simp) hc
          exact absurd hc0 (by rw [hun]; decide)
      have hpre := hJ.pre hcut
      rw [gd9] at q18
      have c6 := (A0.out.ext hpre).at.2.2.2.2.2.2
      rw [show x.sec.V = .slice x.sec.ad x.sec.l.length x.sec.cap from rfl] at c6
      have HF := Hi (hK (x.sec.V) w2 (hJ.plain (by rw [hls]; decide) hFst (by decide) (Ex.refl _) (by rw [hT]; rfl) hord))
      clear hsz hdep hout hlat hpre hcut hJ hK
      go_simp
      exact HF.out
    · have q19 := hJ.iw hT (hdep ⟨10, .data⟩ (by simp) rfl) rfl rfl _ rfl _ rfl
      have hord : ∀ x ∈ ([(18, 1), (18, 4), (18, 7), (18, 10), (18, 13), (18, 16), (18, 11)] : List (Nat × Nat)), x.1 = 11 → listed.getD x.2 false = true := (by intro x hx he; simp only [List.mem_cons, List.not_mem_nil, or_false] at hx; rcases hx with rfl | rfl | rfl | rfl | rfl | rfl | rfl; all_goals first | (exact absurd he (by decide)) | assumption)
      have hcut : listed.getD 18 false = false := by
        cases hc : listed.getD 18 false with
        | false => rfl
        | true =>
          have hc0 := hJ.ord (18, 11) (by simp) hc
          exact absurd hc0 (by rw [hun]; decide)
      have hpre := hJ.pre hcut
      rw [gd9] at q19
      have SI := Hi (HX.out.sec.ext (Ex.trans BW.out hpre))
      clear hsz hdep hout hlat hpre hcut
      go_simp
      refine (cut_any x.sec 70 (by decide) (by decide) hlen.out w2 SI.out).mono ?_
      rintro e w3 ⟨rfl, rfl⟩
      exact hK _ _ (hJ.plain (by rw [hls]; decide) hFst (by decide) (Ex.refl _) (by rw [hT]; rfl) hord)
    · have q1 := hout 1 ob
      have hord : ∀ x ∈ ([(18, 1), (18, 4), (18, 7), (18, 10), (18, 13), (18, 16), (18, 11)] : List (Nat × Nat)), x.1 = 12 → listed.getD x.2 false = true := (by intro x hx he; simp only [List.mem_cons, List.not_mem_nil, or_false] at hx; rcases hx with rfl | rfl | rfl | rfl | rfl | rfl | rfl; all_goals first | (exact absurd he (by decide)) | assumption)
      rw [gd9] at q1
      clear hsz hdep hout hlat
      go_simp
      exact hK _ _ (hJ.plain (by rw [hls]; decide) hFst (by decide) (Ex.refl _) (by rw [hT]; first | rfl | exact congrArg (Value.int .i64) (by omega) | exact congrArg (Value.int .i64) (by rw [IntKind.wrap_i64]; omega)) hord)
    · have q21 := hJ.iw hT (hdep ⟨12, .data⟩ (by simp) rfl) rfl rfl _ rfl _ rfl
      have hord : ∀ x ∈ ([(18, 1), (18, 4), (18, 7), (18, 10), (18, 13), (18, 16), (18, 11)] : List (Nat × Nat)), x.1 = 13 → listed.getD x.2 false = true := (by intro x hx he; simp only [List.mem_cons, List.not_mem_nil, or_false] at hx; rcases hx with rfl | rfl | rfl | rfl | rfl | rfl | rfl; all_goals first | (exact absurd he (by decide)) | assumption)
      have hcut : listed.getD 18 false = false := by
        cases hc : listed.getD 18 false with
        | false => rfl
        | true =>
          have hc0 := hJ.ord (18, 13) (by simp) hc
          exact absurd hc0 (by rw [hun]; decide)
      have hpre := hJ.pre hcut
      rw [gd9] at q21
      have c6 := (A0.out.ext hpre).at.2.2.2.2.1
      have HF := Hi (hK (.int .i64 x.lim) w2 (hJ.plain (by rw [hls]; decide) hFst (by decide) (Ex.refl _) (by rw [hT]; rfl) hord))
      clear hsz hdep hout hlat hpre hcut hJ hK
      go_simp
      exact HF.out
    · have q22 := hJ.iw hT (hdep ⟨13, .data⟩ (by simp) rfl) rfl rfl _ rfl _ rfl
      have hord : ∀ x ∈ ([(18, 1), (18, 4), (18, 7), (18, 10), (18, 13), (18, 16), (18, 11)] : List (Nat × Nat)), x.1 = 14 → listed.getD x.2 false = true := (by intro x hx he; simp only [List.mem_cons, List.not_mem_nil, or_false] at hx; rcases hx with rfl | rfl | rfl | rfl | rfl | rfl | rfl; all_goals first | (exact absurd he (by decide)) | assumption)
      rw [gd9] at q22
      clear hsz hdep hout hlat
      go_simp
      refine (within_any x.lim 0 33 HX.out.lim (by decide) (by decide) (by decide) w2).mono ?_
      rintro e w3 ⟨m, rfl, lo, hi, rfl⟩
      exact hK _ _ (hJ.plain (by rw [hls]; decide) hFst (by decide) (Ex.refl _) (by rw [hT]; exact ⟨m, rfl, lo, hi⟩) hord)
    · have q1 := hout 1 ob
      have hord : ∀ x ∈ ([(18, 1), (18, 4), (18, 7), (18, 10), (18, 13), (18, 16), (18, 11)] : List (Nat × Nat)), x.1 = 15 → listed.getD x.2 false = true := (by intro x hx he; simp only [List.mem_cons, List.not_mem_nil, or_false] at hx; rcases hx with rfl | rfl | rfl | rfl | rfl | rfl | rfl; all_goals first | (exact absurd he (by decide)) | assumption)
      rw [gd9] at q1
      clear hsz hdep hout hlat
      go_simp
      exact hK _ _ (hJ.plain (by rw [hls]; decide) hFst (by decide) (Ex.refl _) (by rw [hT]; first | rfl | exact congrArg (Value.int .i64) (by omega) | exact congrArg (Value.int .i64) (by rw [IntKind.wrap_i64]; omega)) hord)
    · have q24 := hJ.iw hT (hdep ⟨15, .data⟩ (by simp) rfl) rfl rfl _ rfl _ rfl
      have hord : ∀ x ∈ ([(18, 1), (18, 4), (18, 7), (18, 10), (18, 13), (18, 16), (18, 11)] : List (Nat × Nat)), x.1 = 16 → listed.getD x.2 false = true := (by intro x hx he; simp only [List.mem_cons, List.not_mem_nil, or_false] at hx; rcases hx with rfl | rfl | rfl | rfl | rfl | rfl | rfl; all_goals first | (exact absurd he (by decide)) | assumption)
      have hcut : listed.getD 18 false = false := by
        cases hc : listed.getD 18 false with
        | false => rfl
        | true =>
          have hc0 := hJ.ord (18, 16) (by simp) hc
          exact absurd hc0 (by rw [hun]; decide)
      have hpre := hJ.pre hcut
      rw [gd9] at q24
      have c6 := (A0.out.ext hpre).at.2.2.2.2.2.1
      have HF := Hi (hK (.string x.own) w2 (hJ.plain (by rw [hls]; decide) hFst (by decide) (Ex.refl _) (by rw [hT]; rfl) hord))
      clear hsz hdep hout hlat hpre hcut hJ hK
      go_simp
      exact HF.out
    · have dd11 := hdep ⟨2, .data⟩ (by simp) rfl
      have q11 := dd11.2 _ rfl _ rfl
      have h11 := hJ.vals 2 dd11.1 (fun c hc => by have hc : some 17 = some c := hc; cases hc; exact hun)
      rw [hT] at h11
      have h11 : (fun v W => ∃ m : Int, v = .int .i64 m ∧ 0 ≤ m ∧ m ≤ 5) (f 2) w2 := h11
      obtain ⟨m11, e11, lo11, hi11⟩ := h11
      rw [e11] at q11
      clear e11
      clear dd11
      have dd14 := hdep ⟨5, .data⟩ (by simp) rfl
      have q14 := dd14.2 _ rfl _ rfl
      have h14 := hJ.vals 5 dd14.1 (fun c hc => by have hc : some 17 = some c := hc; cases hc; exact hun)
      rw [hT] at h14
      have h14 : (fun v W => ∃ l : List UInt8, v = digV l ∧ l.length = 4) (f 5) w2 := h14
      obtain ⟨l14, e14, n14⟩ := h14
      rw [e14] at q14
      clear e14
      clear dd14
      have dd17 := hdep ⟨8, .data⟩ (by simp) rfl
      have q17 := dd17.2 _ rfl _ rfl
      have h17 := hJ.vals 8 dd17.1 (fun c hc => by have hc : some 17 = some c := hc; cases hc; exact hun)
      rw [hT] at h17
      have h17 : (fun v W => ∃ s : ByteArray, v = .string s ∧ s.size ≤ 100) (f 8) w2 := h17
      obtain ⟨s17, e17, n17⟩ := h17
      rw [e17] at q17
      clear e17
      clear dd17
      have q20 := hJ.iw hT (hdep ⟨11, .data⟩ (by simp) rfl) rfl rfl _ rfl _ rfl
      have dd23 := hdep ⟨14, .data⟩ (by simp) rfl
      have q23 := dd23.2 _ rfl _ rfl
      have h23 := hJ.vals 14 dd23.1 (fun c hc => by have hc : some 17 = some c := hc; cases hc; exact hun)
      rw [hT] at h23
      have h23 : (fun v W => ∃ m : Int, v = .int .i64 m ∧ 0 ≤ m ∧ m ≤ 33) (f 14) w2 := h23
      obtain ⟨m23, e23, lo23, hi23⟩ := h23
      rw [e23] at q23
      clear e23
      clear dd23
      have q25 := hJ.iw hT (hdep ⟨16, .data⟩ (by simp) rfl) rfl rfl _ rfl _ rfl
      have hord : ∀ x ∈ ([(18, 1), (18, 4), (18, 7), (18, 10), (18, 13), (18, 16), (18, 11)] : List (Nat × Nat)), x.1 = 17 → listed.getD x.2 false = true := (by intro x hx he; simp only [List.mem_cons, List.not_mem_nil, or_false] at hx; rcases hx with rfl | rfl | rfl | rfl | rfl | rfl | rfl; all_goals first | (exact absurd he (by decide)) | assumption)
      refine wp_build _ _ rfl (Wt.mk m11 l14 s17 (cutP x) m23 x.own).C.toArray ?_ (hK _ _ (hJ.plain (by rw [hls]; decide) hFst (by decide) (Ex.refl _) (by rw [hT]; exact ⟨⟨m11, l14, s17, cutP x, m23, x.own⟩, rfl, ⟨by show (-9223372036854775808 : Int) ≤ m11; omega, by show m11 ≤ 9223372036854775807; omega, n14, by show (-9223372036854775808 : Int) ≤ m23; omega, by show m23 ≤ 9223372036854775807; omega, by show s17.size ≤ _; omega, HX.out.own, by show (x.sec.l.take 70).length ≤ _; rw [List.length_take]; omega⟩, rfl⟩) hord))
      show Try.prog.built 31 [(0, a.tmps.getD 11 undef), (1, a.tmps.getD 14 undef), (2, a.tmps.getD 17 undef), (3, a.tmps.getD 20 undef), (4, a.tmps.getD 23 undef), (5, a.tmps.getD 25 undef)] = _
      rw [q11, q14, q17, q20, q23, q25]
      exact built_wish m11 l14 s17 (cutP x) m23 x.own n14
    have q2 := hout 2 ob
    have dd26 := hdep ⟨17, .data⟩ (by simp) rfl
    have q26 := dd26.2 _ rfl _ rfl
    have h26 := hJ.vals 17 dd26.1 (fun c hc => by have hc : some 18 = some c := hc; cases hc; exact hun)
    rw [hT] at h26
    have h26 : (fun v W => ∃ y : Wt, v = y.V ∧ y.Ok ∧ y.sec = cutP x) (f 17) w2 := h26
    obtain ⟨y26, e26, ok26, ys26⟩ := h26
    rw [e26] at q26
    clear e26
    clear dd26
    have hl1 := (hdep ⟨1, .phase⟩ (by simp) rfl).1
    have hl4 := (hdep ⟨4, .phase⟩ (by simp) rfl).1
    have hl7 := (hdep ⟨7, .phase⟩ (by simp) rfl).1
    have hl10 := (hdep ⟨10, .phase⟩ (by simp) rfl).1
    have hl13 := (hdep ⟨13, .phase⟩ (by simp) rfl).1
    have hl16 := (hdep ⟨16, .phase⟩ (by simp) rfl).1
    have hl11 := (hdep ⟨11, .phase⟩ (by simp) rfl).1
    have hord : ∀ x ∈ ([(18, 1), (18, 4), (18, 7), (18, 10), (18, 13), (18, 16), (18, 11)] : List (Nat × Nat)), x.1 = 18 → listed.getD x.2 false = true := (by intro x hx he; simp only [List.mem_cons, List.not_mem_nil, or_false] at hx; rcases hx with rfl | rfl | rfl | rfl | rfl | rfl | rfl; all_goals first | (exact absurd he (by decide)) | assumption)
    have hcut := hun
    have hpre := hJ.pre hcut
    have hc1 : ∀ j, j ≠ 18 → ([true, true, false, true, true, false, true, true, false, true, true, true, true, true, false, true, true, false, true] : List Bool).getD j true = false → listed.getD j false = true → ∃ c, (([none, none, some 17, none, none, some 17, none, none, some 17, none, none, none, none, none, some 17, none, none, some 18, none] : List (Option Nat))).getD j none = some c ∧ (c = 18 ∨ listed.getD c false = true) := by
      intro j hj hfj hl
      have hm : j = 2 ∨ j = 5 ∨ j = 8 ∨ j = 14 ∨ j = 17 := by
        rcases Nat.lt_or_ge j 19 with h | h
        · have hk : j = 0 ∨ j = 1 ∨ j = 2 ∨ j = 3 ∨ j = 4 ∨ j = 5 ∨ j = 6 ∨ j = 7 ∨ j = 8 ∨ j = 9 ∨ j = 10 ∨ j = 11 ∨ j = 12 ∨ j = 13 ∨ j = 14 ∨ j = 15 ∨ j = 16 ∨ j = 17 ∨ j = 18 := by omega
          rcases hk with rfl | rfl | rfl | rfl | rfl | rfl | rfl | rfl | rfl | rfl | rfl | rfl | rfl | rfl | rfl | rfl | rfl | rfl | rfl <;> first | (exact absurd hfj (by decide)) | simp
        · rw [List.getD_eq_getElem?_getD, List.getElem?_eq_none (by simpa using h)] at hfj; cases hfj
      rcases hm with rfl | rfl | rfl | rfl | rfl
      iterate 4
       focus
        exact ⟨17, rfl, Or.inr (hdep ⟨17, .data⟩ (by simp) rfl).1⟩
      · exact ⟨18, rfl, Or.inl rfl⟩
    refine st_w (.tmp 2) (.tmp 26) (g + 1) y26 rfl q2 q26 ok26 (Z0.out.ext hpre) zeroWt_len (fun w9 hd ho => ?_)
    exact hK _ _ (hJ.mod (by rw [hls]; decide) HFX (by rw [hT]; trivial) hc1 (Or.inl rfl) (fun _ => ⟨y26, hd, ys26, ho.below w.heap.size (by have := HG.out; omega) _ (Ex.trans BW.out hpre)⟩) hord)
  intro listed f w2 hall hJ
  have xf : (fun W => ∃ y9 : Wt, WB W (g + 1) y9 ∧ y9.sec = cutP x ∧ Ex w W) w2 := hJ.fin (hall 18 (by simp))
  simp only [putAll, Act.put, List.setIfInBounds_toArray, List.set_cons_zero, List.set_cons_succ, Nat.zero_add, Nat.reduceAdd]
  clear hJ hall hT HFX hFst
  generalize f 0 = y0
  generalize f 1 = y1
  generalize f 2 = y2
  generalize f 3 = y3
  generalize f 4 = y4
  generalize f 5 = y5
  generalize f 6 = y6
  generalize f 7 = y7
  generalize f 8 = y8
  generalize f 9 = y9
  generalize f 10 = y10
  generalize f 11 = y11
  generalize f 12 = y12
  generalize f 13 = y13
  generalize f 14 = y14
  generalize f 15 = y15
  generalize f 16 = y16
  generalize f 17 = y17
  obtain ⟨y9, h1, h2, h3⟩ := xf
  have H1 := Hi h1
  have H2 := Hi h2
  have H3 := Hi h3
  clear h1 h2 h3
  go_wp2_with fail
  exact bodyPost_ret (res_w rfl _ _ (g + 1) rfl y9 H1.out) rfl ⟨y9, rfl, ⟨H1.out.1, by rw [H2.out]; exact bcut_in (HX.out.sec.ext H3.out) 70⟩, H3.out, Or.inr H2.out⟩
theorem wish_any (x : Ak) (w : World) (hx : AI w x) : Calls Try.prog 17 #[x.V] w (WishPost w) := (wish2_any x w hx).mono fun _ _ ⟨W, h1, h2, h3, _⟩ => ⟨W, h1, h2, h3⟩
end Go.Proofs.Ytopamplmpfndlaa.Cl
namespace Go.Proofs.Ytopamplmpfndlaa.Cl
open Go.RowKit
theorem Try.sizeAk : (Try.prog.info? 33).map (·.size) = some 30 := by kernel_rfl
section
variable {o : Oper} {a : Act} {w : World} {K : Act → World → Prop} {Q : Exit → Act → World → Prop}
theorem ld_ask (x : Operand) (g : Nat) (v : Ak) (ho : o.op = .load 33 x) (ha : a.eval x = .pointer (some ⟨g, 0, none⟩)) {w9 : World} (hv : AI w9 v) (h : AB w g v) (hk : K (a.put o.dst v.V) w) : o.wp Try.prog a w K Q := by
  obtain ⟨dd, hd⟩ : ∃ d, Try.prog.underlying 33 = some d ∧ d.isRow = true := ⟨_, Try.underlying33, rfl⟩
  exact wp_ldp (C := v.C) v.C x g 0 dd ho ha h (by simp) hd.1 hd.2 (by rw [Try.sizeAk, Ak.len hv]) hk
theorem st_wpin (x y : Operand) (g : Nat) (v : Wt) (s : ByteArray) (ho : o.op = .store 9 x y) (ha : a.eval x = .pointer (some ⟨g, 5, none⟩)) (hy : a.eval y = .string s) (h : WB w g v) (hs : s.size ≤ 140737488351232)
    (hk : ∀ w', WB w' g ⟨v.op, v.id, s, v.sec, v.lim, v.own⟩ → Only g w w' → K (a.put o.dst undef) w') : o.wp Try.prog a w K Q := by
  have ok : (Wt.mk v.op v.id s v.sec v.lim v.own).Ok := ⟨h.1.op0, h.1.op1, h.1.idN, h.1.lim0, h.1.lim1, hs, h.1.ownN, h.1.secN⟩
  refine wp_st1 x y g 5 (.string s) ho ha hy h.2 (by rw [Wt.len h.1]; decide) (by kernel_rfl) rfl (fun w' b1 b2 => hk w' ⟨ok, ?_⟩ b2)
  have e : v.C.set 5 (.string s) = (Wt.mk v.op v.id s v.sec v.lim v.own).C := by
    obtain ⟨a0, a1, a2, a3, e⟩ := len4 h.1.idN
    unfold Wt.C
    rw [e]
    rfl
  rw [← e]; exact b1
end
def WS (base : World) (l : Array Bool) (f : Nat → Value) (W : World) : Prop := Ex base W ∧ (l.getD 6 false = true → ∃ y : Wt, f 6 = y.V ∧ WI W y)
section
variable {base W W' : World} {l : Array Bool} {f : Nat → Value}
theorem WS.step (h : WS base l f W) {i : Nat} {v : Value} (hi : i ≠ 6) (x : Ex W W') : WS base (l.setIfInBounds i true) (upd f i v) W' := by
  unfold WS
  rw [gset hi, upd_ne _ _ (Ne.symm hi)]
  refine ⟨h.1.trans x, fun e => ?_⟩
  obtain ⟨y, a, b⟩ := h.2 e
  exact ⟨y, a, b.ext x⟩
theorem WS.wish (h : WS base l f W) (x : Ex W W') (y : Wt) (hy : WI W' y) : WS base (l.setIfInBounds 6 true) (upd f 6 y.V) W' :=
  ⟨h.1.trans x, fun _ => ⟨y, upd_same _ _ _, hy⟩⟩
end
theorem tells22_any (n m : Int) (hn : -9223372036854775808 ≤ n ∧ n ≤ 9223372036854775807) (m0 : 0 ≤ m) (m1 : m < 18446744073709551616) (kl : List UInt8) (hk : kl.length = 16) (x : Ak) (y : Wt) (w : World) (hx : AI w x) (hy : WI w y) : Calls Try.prog 5 #[.int .i64 n, .int .u64 m, digV kl, x.V, y.V] w fun e w' => e = .returned (.bool true) ∧ Ex w w' := by
  obtain ⟨ds, hds⟩ : ∃ ds, ds = (Lib.byteCells kl).toArray := ⟨_, rfl⟩
  obtain ⟨cs, has⟩ : ∃ ds, ds = x.C.toArray := ⟨_, rfl⟩
  obtain ⟨es, hes⟩ : ∃ ds, ds = y.C.toArray := ⟨_, rfl⟩
  have D0 : Hid (Bk (((w.alloc (.cells ds 36)).alloc (.cells cs 33)).alloc (.cells es 31)) w.heap.size 36 (Lib.byteCells kl).toArray) := Hi (by rw [← hds]; exact ((Bk.new rfl _ _).more _).more _)
  have A0 : Hid (AB (((w.alloc (.cells ds 36)).alloc (.cells cs 33)).alloc (.cells es 31)) (w.heap.size + 1) x) := Hi (by unfold AB; rw [← has]; exact (Bk.new (by simp) _ _).more _)
  have V0 : Hid (WB (((w.alloc (.cells ds 36)).alloc (.cells cs 33)).alloc (.cells es 31)) (w.heap.size + 2) y) := Hi ⟨hy.1, by rw [← hes]; exact Bk.new (by simp) _ _⟩
  have BW : Hid (Ex w (((w.alloc (.cells ds 36)).alloc (.cells cs 33)).alloc (.cells es 31))) := Hi (Ex.trans (Ex.trans (Ex.alloc _ _) (Ex.alloc _ _)) (Ex.alloc _ _))
  have HK := Hi hk
  have HX := Hi hx
  have HY := Hi hy
  have HN := Hi hn
  rw [show (Calls Try.prog 5 #[.int .i64 n, .int .u64 m, digV kl, x.V, y.V] w) = (Calls Try.prog 5 #[.int .i64 n, .int .u64 m, .agg ds, .agg cs, .agg es] w) by rw [hds, has, hes]; rfl]
  clear hds has hes hk hx hy hn
  go_enter Try.func5, Try.ntmps5
  go_wp2_with ((with_reducible refine so7 [9] ?_ ?_); (focus rfl))
  (with_reducible refine ⟨?_⟩)
  change wpList _ _ _ _ _ (((w.alloc (.cells ds 36)).alloc (.cells cs 33)).alloc (.cells es 31))
  generalize (((w.alloc (.cells ds 36)).alloc (.cells cs 33)).alloc (.cells es 31)) = wr at *
  obtain ⟨g, hg⟩ : ∃ i, i = w.heap.size := ⟨_, rfl⟩
  have HG := Hi hg
  rw [← hg] at D0 A0 V0 ⊢
  clear hg
  have yp := V0.out.cells.2.1
  go_wp2_with ((with_reducible refine so7 [1000 + 9] ?_ ?_); (focus rfl))
  refine at9 (by go_simp) fun K0 hK => wp_cvs9 _ y.pin rfl rfl (fun p wp pl pi px => hK _ _ ?_)
  clear hK
  have hpl : p.l.length ≤ 9223372036854775807 := by rw [pl]; have h := HY.out.ok.pinN; exact Nat.le_trans (show y.pin.data.toList.length ≤ 140737488351232 from h) (by decide)
  have PI := Hi pi
  have HPL := Hi hpl
  replace D0 := Hi (D0.out.ext px)
  replace A0 := Hi (A0.out.ext px)
  replace V0 := Hi (V0.out.ext px)
  replace BW := Hi (Ex.trans BW.out px)
  clear pl pi px hpl yp
  go_wp2_with ((with_reducible refine so7 [1000 + 9] ?_ ?_); (focus rfl))
  refine (cut_any p 40 (by decide) (by decide) HPL.out wp PI.out).mono ?_
  rintro e w1 ⟨rfl, rfl⟩
  obtain ⟨S, hS⟩ : ∃ S, S = strL (p.l.take 40) := ⟨_, rfl⟩
  have SN : Hid (S.size ≤ 140737488351232) := Hi (by rw [hS]; show (p.l.take 40).toArray.size ≤ _; simp; omega)
  have cv := pt_conv (Pt.mk p.ad p.cap (p.l.take 40)) wp (bcut_in PI.out 40)
  rw [← hS] at cv
  obtain ⟨lc, hlc⟩ : ∃ x, x = (p.l.take 40).length := ⟨_, rfl⟩
  rw [show (Pt.mk p.ad p.cap (p.l.take 40)).V = .slice p.ad lc p.cap from by rw [hlc]; rfl]
  rw [show ((Pt.mk p.ad p.cap (p.l.take 40)).l.length) = lc from hlc.symm] at cv
  clear hlc hS
  go_wp2_with ((with_reducible refine so7 [1000 + 9] ?_ ?_); (focus rfl))
  refine at9 (by go_simp) fun K0 hK => st_wpin _ _ (g + 2) y S rfl rfl rfl V0.out SN.out (fun w2 hd ho => hK _ _ ?_)
  clear hK
  have WY : Hid (WI w2 ⟨y.op, y.id, S, y.sec, y.lim, y.own⟩) := Hi ⟨hd.1, by
      have x2 := ho.below w.heap.size (by have := HG.out; omega) _ BW.out
      exact HY.out.sec.ext x2⟩
  obtain ⟨z, hz⟩ : ∃ z : Wt, z = ⟨y.op, y.id, S, y.sec, y.lim, y.own⟩ := ⟨_, rfl⟩
  rw [← hz] at WY hd
  have VZ := Hi hd
  replace D0 := Hi (ho.bk D0.out (by omega))
  replace A0 : Hid (AB w2 (g + 1) x) := Hi (ho.bk A0.out (by omega))
  replace BW := Hi (ho.below w.heap.size (by have := HG.out; omega) _ BW.out)
  clear hd ho hz cv V0 PI
  go_wp2_with fail
  have m2 : 0 ≤ m.tmod 1000 := Int.tmod_nonneg _ m0
  have m3 : m.tmod 1000 < 1000 := Int.tmod_lt_of_pos m (by decide)
  generalize w2 = wq at *
  have hS0 : ∀ (listed : Array Bool) (f : Nat → Value), (∀ i, listed.getD i false = false) → (WS wq) listed f wq.drew := fun listed f h0 => ⟨ex_drewN wq 1, fun e => absurd e (by rw [h0]; decide)⟩
  obtain ⟨T, hT⟩ : ∃ T : List (Value → Prop), T = [(fun zz => zz = .int .i64 n), (fun zz => ∃ m : Int, zz = .int .i64 m ∧ 0 ≤ m ∧ m ≤ 3), (fun zz => zz = .int .u64 m), (fun zz => zz = .int .u64 (m.tmod 1000)), (fun zz => zz = digV kl), (fun zz => zz = x.V), (fun _ => True), (fun zz => zz = .bool true), (fun zz => zz = .bool true), (fun zz => zz = .int .i64 n), (fun zz => ∃ m : Int, zz = .int .i64 m ∧ 0 ≤ m ∧ m ≤ 3), (fun zz => zz = .int .u64 m), (fun zz => zz = .int .u64 (m.tmod 1000)), (fun zz => zz = digV kl), (fun zz => zz = z.V), (fun zz => zz = .bool true), (fun zz => zz = .bool true), (fun zz => zz = .bool true), (fun zz => zz = .bool true), (fun zz => zz = .bool true), (fun zz => zz = .bool true)] := ⟨_, rfl⟩
  refine wp_region_gen (JS T ([] : List (Nat × Nat)) (WS wq)) (by kernel_rfl) (by kernel_rfl) (by kernel_rfl) (fitB_spec (by kernel_rfl)) (fun listed f h => JS.start listed f h (hS0 listed f h)) ?_ ?_
  · intro i o ho
    have hi : i < 21 := (Array.getElem?_eq_some_iff.1 ho).1
    have hi' : i = 0 ∨ i = 1 ∨ i = 2 ∨ i = 3 ∨ i = 4 ∨ i = 5 ∨ i = 6 ∨ i = 7 ∨ i = 8 ∨ i = 9 ∨ i = 10 ∨ i = 11 ∨ i = 12 ∨ i = 13 ∨ i = 14 ∨ i = 15 ∨ i = 16 ∨ i = 17 ∨ i = 18 ∨ i = 19 ∨ i = 20 := by omega
    clear hi
    rcases hi' with rfl | rfl | rfl | rfl | rfl | rfl | rfl | rfl | rfl | rfl | rfl | rfl | rfl | rfl | rfl | rfl | rfl | rfl | rfl | rfl | rfl
    all_goals (simp only [List.getElem?_toArray, List.getElem?_cons_zero, List.getElem?_cons_succ, Option.some.injEq] at ho; subst ho; intro listed f a w2 hJ hsz hls hun hdep hout hlat; first | (rw [if_pos (by rfl)]; intro K hK) | skip)
    · have q0 := hout 0 ob
      have hord : ∀ x ∈ ([] : List (Nat × Nat)), x.1 = 0 → listed.getD x.2 false = true := by simp
      exact wp_mw _ rfl q0 (hK _ _ (hJ.nx hls hT rfl rfl (hJ.st.step (by decide) (Ex.refl _)) hord))
    · have q17 := hJ.is hT (hdep ⟨0, .data⟩ (by simp) rfl) rfl _ rfl _ rfl
      have hord : ∀ x ∈ ([] : List (Nat × Nat)), x.1 = 1 → listed.getD x.2 false = true := by simp
      rw [gd9] at q17
      clear hsz hdep hout hlat
      go_simp
      refine (within_any n 0 3 HN.out (by decide) (by decide) (by decide) w2).mono ?_
      rintro e w3 ⟨m9, rfl, lo, hi, rfl⟩
      exact hK _ _ (hJ.nx hls hT rfl (by exact ⟨m9, rfl, lo, hi⟩) (hJ.st.step (by decide) (Ex.refl _)) hord)
    · have q1 := hout 1 ob
      have hord : ∀ x ∈ ([] : List (Nat × Nat)), x.1 = 2 → listed.getD x.2 false = true := by simp
      exact wp_mw _ rfl q1 (hK _ _ (hJ.nx hls hT rfl rfl (hJ.st.step (by decide) (Ex.refl _)) hord))
    · have q19 := hJ.is hT (hdep ⟨2, .data⟩ (by simp) rfl) rfl _ rfl _ rfl
      have hord : ∀ x ∈ ([] : List (Nat × Nat)), x.1 = 3 → listed.getD x.2 false = true := by simp
      rw [gd9] at q19
      clear hsz hdep hout hlat
      go_simp
      exact hK _ _ (hJ.nx hls hT rfl (by first | rfl | exact congrArg (Value.int .u64) (by first | omega | (rw [IntKind.wrap_u64]; omega) | (simp [IntKind.wrap]; omega))) (hJ.st.step (by decide) (Ex.refl _)) hord)
    · have q7 := hout 7 ob
      have hord : ∀ x ∈ ([] : List (Nat × Nat)), x.1 = 4 → listed.getD x.2 false = true := by simp
      exact ld_dgb (.tmp 7) g kl rfl q7 HK.out (D0.out.ext hJ.st.1) (hK _ _ (hJ.nx hls hT rfl rfl (hJ.st.step (by decide) (Ex.refl _)) hord))
    · have q8 := hout 8 ob
      have hord : ∀ x ∈ ([] : List (Nat × Nat)), x.1 = 5 → listed.getD x.2 false = true := by simp
      exact ld_ask (.tmp 8) (g + 1) x rfl q8 HX.out (A0.out.ext hJ.st.1) (hK _ _ (hJ.nx hls hT rfl rfl (hJ.st.step (by decide) (Ex.refl _)) hord))
    · have q22 := hJ.is hT (hdep ⟨5, .data⟩ (by simp) rfl) rfl _ rfl _ rfl
      have hord : ∀ x ∈ ([] : List (Nat × Nat)), x.1 = 6 → listed.getD x.2 false = true := by simp
      rw [gd9] at q22
      clear hsz hdep hout hlat
      go_simp
      refine (wish_any x w2 (HX.out.ext (Ex.trans BW.out hJ.st.1))).mono ?_
      rintro e w3 ⟨y9, rfl, yi, x3⟩
      exact hK _ _ (hJ.nx hls hT rfl (by exact trivial) (hJ.st.wish x3 y9 yi) hord)
    · have dd18 := hdep ⟨1, .data⟩ (by simp) rfl
      have q18 := dd18.2 _ rfl _ rfl
      have h18 := hJ.vals 1 dd18.1
      rw [hT] at h18
      have h18 : (fun zz => ∃ m : Int, zz = .int .i64 m ∧ 0 ≤ m ∧ m ≤ 3) (f 1) := h18
      obtain ⟨m18, e18, lo18, hi18⟩ := h18
      rw [e18] at q18
      clear e18
      clear dd18
      have q20 := hJ.is hT (hdep ⟨3, .data⟩ (by simp) rfl) rfl _ rfl _ rfl
      have q21 := hJ.is hT (hdep ⟨4, .data⟩ (by simp) rfl) rfl _ rfl _ rfl
      have dd23 := hdep ⟨6, .data⟩ (by simp) rfl
      have q23 := dd23.2 _ rfl _ rfl
      have hord : ∀ x ∈ ([] : List (Nat × Nat)), x.1 = 7 → listed.getD x.2 false = true := by simp
      have l6 := (hdep ⟨6, .data⟩ (by simp) rfl).1
      obtain ⟨y9, e9, yi⟩ := hJ.st.2 l6
      rw [e9] at q23
      rw [gd9] at q18
      rw [gd9] at q20
      rw [gd9] at q21
      rw [gd9] at q23
      clear hsz hdep hout hlat
      go_simp
      refine (asks_any m18 (m.tmod 1000) (by omega) (by omega) m2 (by omega) kl HK.out y9 w2 yi).mono ?_
      rintro e w3 ⟨rfl, x3⟩
      exact hK _ _ (hJ.nx hls hT rfl rfl (hJ.st.step (by decide) x3) hord)
    · have q24 := hJ.is hT (hdep ⟨7, .data⟩ (by simp) rfl) rfl _ rfl _ rfl
      have hord : ∀ x ∈ ([] : List (Nat × Nat)), x.1 = 8 → listed.getD x.2 false = true := by simp
      exact wp_mw _ rfl q24 (hK _ _ (hJ.nx hls hT rfl rfl (hJ.st.step (by decide) (Ex.refl _)) hord))
    · refine ifp (wanted_of rfl rfl rfl (hJ.is hT (hdep ⟨8, .guard⟩ (by simp) rfl) rfl _ rfl _ rfl)) fun K hK => ?_
      have q0 := hout 0 ob
      have hord : ∀ x ∈ ([] : List (Nat × Nat)), x.1 = 9 → listed.getD x.2 false = true := by simp
      exact wp_mw _ rfl q0 (hK _ _ (hJ.nx hls hT rfl rfl (hJ.st.step (by decide) (Ex.refl _)) hord))
    · refine ifp (wanted_of rfl rfl rfl (hJ.is hT (hdep ⟨8, .guard⟩ (by simp) rfl) rfl _ rfl _ rfl)) fun K hK => ?_
      have q26 := hJ.is hT (hdep ⟨9, .data⟩ (by simp) rfl) rfl _ rfl _ rfl
      have hord : ∀ x ∈ ([] : List (Nat × Nat)), x.1 = 10 → listed.getD x.2 false = true := by simp
      rw [gd9] at q26
      clear hsz hdep hout hlat
      go_simp
      refine (within_any n 0 3 HN.out (by decide) (by decide) (by decide) w2).mono ?_
      rintro e w3 ⟨m9, rfl, lo, hi, rfl⟩
      exact hK _ _ (hJ.nx hls hT rfl (by exact ⟨m9, rfl, lo, hi⟩) (hJ.st.step (by decide) (Ex.refl _)) hord)
    · refine ifp (wanted_of rfl rfl rfl (hJ.is hT (hdep ⟨8, .guard⟩ (by simp) rfl) rfl _ rfl _ rfl)) fun K hK => ?_
      have q1 := hout 1 ob
      have hord : ∀ x ∈ ([] : List (Nat × Nat)), x.1 = 11 → listed.getD x.2 false = true := by simp
      exact wp_mw _ rfl q1 (hK _ _ (hJ.nx hls hT rfl rfl (hJ.st.step (by decide) (Ex.refl _)) hord))
    · refine ifp (wanted_of rfl rfl rfl (hJ.is hT (hdep ⟨8, .guard⟩ (by simp) rfl) rfl _ rfl _ rfl)) fun K hK => ?_
      have q28 := hJ.is hT (hdep ⟨11, .data⟩ (by simp) rfl) rfl _ rfl _ rfl
      have hord : ∀ x ∈ ([] : List (Nat × Nat)), x.1 = 12 → listed.getD x.2 false = true := by simp
      rw [gd9] at q28
      clear hsz hdep hout hlat
      go_simp
      exact hK _ _ (hJ.nx hls hT rfl (by first | rfl | exact congrArg (Value.int .u64) (by first | omega | (rw [IntKind.wrap_u64]; omega) | (simp [IntKind.wrap]; omega))) (hJ.st.step (by decide) (Ex.refl _)) hord)
    · refine ifp (wanted_of rfl rfl rfl (hJ.is hT (hdep ⟨8, .guard⟩ (by simp) rfl) rfl _ rfl _ rfl)) fun K hK => ?_
      have q7 := hout 7 ob
      have hord : ∀ x ∈ ([] : List (Nat × Nat)), x.1 = 13 → listed.getD x.2 false = true := by simp
      exact ld_dgb (.tmp 7) g kl rfl q7 HK.out (D0.out.ext hJ.st.1) (hK _ _ (hJ.nx hls hT rfl rfl (hJ.st.step (by decide) (Ex.refl _)) hord))
    · refine ifp (wanted_of rfl rfl rfl (hJ.is hT (hdep ⟨8, .guard⟩ (by simp) rfl) rfl _ rfl _ rfl)) fun K hK => ?_
      have q9 := hout 9 ob
      have hord : ∀ x ∈ ([] : List (Nat × Nat)), x.1 = 14 → listed.getD x.2 false = true := by simp
      exact ld_w (.tmp 9) (g + 2) z rfl q9 (VZ.out.ext hJ.st.1) (hK _ _ (hJ.nx hls hT rfl rfl (hJ.st.step (by decide) (Ex.refl _)) hord))
    · refine ifp (wanted_of rfl rfl rfl (hJ.is hT (hdep ⟨8, .guard⟩ (by simp) rfl) rfl _ rfl _ rfl)) fun K hK => ?_
      have dd27 := hdep ⟨10, .data⟩ (by simp) rfl
      have q27 := dd27.2 _ rfl _ rfl
      have h27 := hJ.vals 10 dd27.1
      rw [hT] at h27
      have h27 : (fun zz => ∃ m : Int, zz = .int .i64 m ∧ 0 ≤ m ∧ m ≤ 3) (f 10) := h27
      obtain ⟨m27, e27, lo27, hi27⟩ := h27
      rw [e27] at q27
      clear e27
      clear dd27
      have q29 := hJ.is hT (hdep ⟨12, .data⟩ (by simp) rfl) rfl _ rfl _ rfl
      have q30 := hJ.is hT (hdep ⟨13, .data⟩ (by simp) rfl) rfl _ rfl _ rfl
      have q31 := hJ.is hT (hdep ⟨14, .data⟩ (by simp) rfl) rfl _ rfl _ rfl
      have hord : ∀ x ∈ ([] : List (Nat × Nat)), x.1 = 15 → listed.getD x.2 false = true := by simp
      rw [gd9] at q27
      rw [gd9] at q29
      rw [gd9] at q30
      rw [gd9] at q31
      clear hsz hdep hout hlat
      go_simp
      refine (asks_any m27 (m.tmod 1000) (by omega) (by omega) m2 (by omega) kl HK.out z w2 (WY.out.ext hJ.st.1)).mono ?_
      rintro e w3 ⟨rfl, x3⟩
      exact hK _ _ (hJ.nx hls hT rfl rfl (hJ.st.step (by decide) x3) hord)
    · have q25 := hJ.is hT (hdep ⟨8, .data⟩ (by simp) rfl) rfl _ rfl _ rfl
      have q32 := hJ.is hT (hdep ⟨15, .data⟩ (by simp) rfl) rfl _ rfl _ rfl
      have hord : ∀ x ∈ ([] : List (Nat × Nat)), x.1 = 16 → listed.getD x.2 false = true := by simp
      rw [gd9] at q25
      rw [gd9] at q32
      clear hsz hdep hout hlat
      go_simp
      exact hK _ _ (hJ.nx hls hT rfl (by first | rfl | exact congrArg (Value.int .i64) (by omega) | exact congrArg (Value.int .i64) (by rw [IntKind.wrap_i64]; omega) | exact congrArg Value.bool (decide_eq_false (by omega)) | exact congrArg Value.bool (decide_eq_true (by omega)) | exact congrArg (Value.int .u64) (by omega)) (hJ.st.step (by decide) (Ex.refl _)) hord)
    · have q33 := hJ.is hT (hdep ⟨16, .data⟩ (by simp) rfl) rfl _ rfl _ rfl
      have hord : ∀ x ∈ ([] : List (Nat × Nat)), x.1 = 17 → listed.getD x.2 false = true := by simp
      exact wp_mw _ rfl q33 (hK _ _ (hJ.nx hls hT rfl rfl (hJ.st.step (by decide) (Ex.refl _)) hord))
    · refine ifp (wanted_of rfl rfl rfl (hJ.is hT (hdep ⟨17, .guard⟩ (by simp) rfl) rfl _ rfl _ rfl)) fun K hK => ?_
      have hord : ∀ x ∈ ([] : List (Nat × Nat)), x.1 = 18 → listed.getD x.2 false = true := by simp
      clear hsz hdep hout hlat
      go_simp
      refine (known22_any w2).mono ?_
      rintro e w3 ⟨rfl, x3⟩
      exact hK _ _ (hJ.nx hls hT rfl rfl (hJ.st.step (by decide) x3) hord)
    · have q34 := hJ.is hT (hdep ⟨17, .data⟩ (by simp) rfl) rfl _ rfl _ rfl
      have q35 := hJ.is hT (hdep ⟨18, .data⟩ (by simp) rfl) rfl _ rfl _ rfl
      have hord : ∀ x ∈ ([] : List (Nat × Nat)), x.1 = 19 → listed.getD x.2 false = true := by simp
      rw [gd9] at q34
      rw [gd9] at q35
      clear hsz hdep hout hlat
      go_simp
      exact hK _ _ (hJ.nx hls hT rfl (by first | rfl | exact congrArg (Value.int .i64) (by omega) | exact congrArg (Value.int .i64) (by rw [IntKind.wrap_i64]; omega) | exact congrArg Value.bool (decide_eq_false (by omega)) | exact congrArg Value.bool (decide_eq_true (by omega)) | exact congrArg (Value.int .u64) (by omega)) (hJ.st.step (by decide) (Ex.refl _)) hord)
    have q36 := hJ.is hT (hdep ⟨19, .data⟩ (by simp) rfl) rfl _ rfl _ rfl
    have hord : ∀ x ∈ ([] : List (Nat × Nat)), x.1 = 20 → listed.getD x.2 false = true := by simp
    rw [gd9] at q36
    clear hsz hdep hout hlat
    go_simp
    exact hK _ _ (hJ.nx hls hT rfl (by first | rfl | exact congrArg (Value.int .i64) (by omega) | exact congrArg (Value.int .i64) (by rw [IntKind.wrap_i64]; omega) | exact congrArg Value.bool (decide_eq_false (by omega)) | exact congrArg Value.bool (decide_eq_true (by omega)) | exact congrArg (Value.int .u64) (by omega)) (hJ.st.step (by decide) (Ex.refl _)) hord)
  intro listed f w2 hall hJ
  have f20 := hJ.fa hT (hall 20 (by simp)) rfl
  have hst := hJ.st
  simp only [putAll, Act.put, List.setIfInBounds_toArray, List.set_cons_zero, List.set_cons_succ, Nat.zero_add, Nat.reduceAdd]
  have x9 := hst.1
  clear hst hS0
  rw [f20]
  clear f20
  clear hJ hall hT
  replace BW := Hi (Ex.trans BW.out x9)
  clear x9
  go_wp2_with fail
  go_ret
  exact ⟨rfl, BW.out⟩
end Go.Proofs.Ytopamplmpfndlaa.Cl
