/- Cx, Cz, Ch -/
import Derived.Test.YtopamplmpfndlaaAbo
set_option maxRecDepth 100000
set_option maxHeartbeats 16000000
namespace Go.Proofs.Ytopamplmpfndlaa.Cl
open Go.RowKit
theorem make_any (B C : Nat) (n : Int) (k : List UInt8) (rv : Value) (got : List Bool) (now : Int) (x : Wt) (w : World) (hc : CI w B C n k rv got) (hf : got.length < 1000) (hx : WI w x) : Calls Try.prog 19 #[.pointer (some ⟨C, 0, none⟩), .int .i64 now, x.V] w (MakePost B C n k rv got (makeF n got.length k now x.ct) w) := by
  obtain ⟨es, hes⟩ : ∃ ds, ds = x.C.toArray := ⟨_, rfl⟩
  have V0 : Hid (WB ((w.alloc (.cells es 31)).alloc (.cells zeroQt.C.toArray 47)) w.heap.size x) := Hi ⟨hx.1, by rw [hes]; exact (Bk.new (by simp) _ _).more _⟩
  have R0 : Hid (QB ((w.alloc (.cells es 31)).alloc (.cells zeroQt.C.toArray 47)) (w.heap.size + 1) zeroQt) := Hi ⟨zeroQt_ok, Bk.new (by simp) _ _⟩
  have BW : Hid (Ex w ((w.alloc (.cells es 31)).alloc (.cells zeroQt.C.toArray 47))) := Hi (Ex.trans (Ex.alloc _ _) (Ex.alloc _ _))
  have CW := Hi hc
  have LF := Hi hf
  have HX := Hi hx
  obtain ⟨RF, hRF⟩ : ∃ R, R = makeF n got.length k now x.ct := ⟨_, rfl⟩
  have HRF := Hi hRF
  rw [← hRF]
  obtain ⟨RC, hRC⟩ : ∃ R, R = (reqF n got.length k x.ct).1 := ⟨_, rfl⟩
  obtain ⟨RE, hRE⟩ : ∃ R, R = (reqF n got.length k x.ct).2 := ⟨_, rfl⟩
  have HC := Hi hRC
  have HE := Hi hRE
  rw [show (Calls Try.prog 19 #[.pointer (some ⟨C, 0, none⟩), .int .i64 now, x.V] w) = (Calls Try.prog 19 #[.pointer (some ⟨C, 0, none⟩), .int .i64 now, .agg es] w) by rw [hes]; rfl]
  clear hes hc hf hx hRF hRC hRE
  by_cases h0 : now < 0
  · go_enter Try.func19, Try.ntmps19
    go_wp2_with ((with_reducible refine so7 [1000 + 3, 1000 + 23, 1000 + 97] ?_ ?_); (focus rfl))
    (with_reducible refine ⟨?_⟩)
    first | change wpList _ _ _ _ _ ((w.alloc (.cells es 31)).alloc (.cells zeroQt.C.toArray 47)) | change Code.wp _ _ _ _ ((w.alloc (.cells es 31)).alloc (.cells zeroQt.C.toArray 47))
    generalize ((w.alloc (.cells es 31)).alloc (.cells zeroQt.C.toArray 47)) = wr at V0 R0 BW ⊢
    obtain ⟨g, hg⟩ : ∃ i, i = w.heap.size := ⟨_, rfl⟩
    rw [← hg] at V0 R0 ⊢
    have HG := Hi hg
    clear hg
    (with_reducible refine at_any ?_ ?_); (focus go_simp); refine fun K0 hK => wp_build _ _ rfl _ built_zreq (hK _ _ ?_)
    clear hK
    go_wp2_with ((with_reducible refine so7 [1000 + 3, 1000 + 23, 1000 + 97] ?_ ?_); (focus rfl))
    refine at9 (by go_simp) fun K0 hK => st_q _ _ (g + 1) zeroQt rfl rfl rfl zeroQt_ok R0.out.2 (by rw [List.size_toArray, Qt.len zeroQt_ok]) (fun w9 hd ho => hK _ _ ?_)
    clear hK
    replace BW := Hi (ho.below w.heap.size (by have := HG.out; omega) _ BW.out)
    have YD := Hi hd
    clear hd ho
    go_wp2_with fail
    have HZ : RF = ([], zeroQt.ct, 1) := by
        rw [HRF.out]; unfold makeF; rw [if_pos (Or.inl h0)]
    rw [HZ]
    exact bodyPost_ret (res_q3 rfl _ _ (g + 1) rfl zeroQt YD.out) rfl ⟨⟨nilB, zeroQt, rfl, rfl, nilB_pn _ _, ⟨zeroQt_ok, nilB_pn _ _⟩, rfl⟩, fun _ => BW.out, fun e => absurd e (by decide)⟩
  by_cases h8 : 8 ≤ now
  · go_enter Try.func19, Try.ntmps19
    go_wp2_with ((with_reducible refine so7 [1000 + 3, 1000 + 23, 1000 + 97] ?_ ?_); (focus rfl))
    (with_reducible refine ⟨?_⟩)
    first | change wpList _ _ _ _ _ ((w.alloc (.cells es 31)).alloc (.cells zeroQt.C.toArray 47)) | change Code.wp _ _ _ _ ((w.alloc (.cells es 31)).alloc (.cells zeroQt.C.toArray 47))
    generalize ((w.alloc (.cells es 31)).alloc (.cells zeroQt.C.toArray 47)) = wr at V0 R0 BW ⊢
    obtain ⟨g, hg⟩ : ∃ i, i = w.heap.size := ⟨_, rfl⟩
    rw [← hg] at V0 R0 ⊢
    have HG := Hi hg
    clear hg
    (with_reducible refine at_any ?_ ?_); (focus go_simp); refine fun K0 hK => wp_build _ _ rfl _ built_zreq (hK _ _ ?_)
    clear hK
    go_wp2_with ((with_reducible refine so7 [1000 + 3, 1000 + 23, 1000 + 97] ?_ ?_); (focus rfl))
    refine at9 (by go_simp) fun K0 hK => st_q _ _ (g + 1) zeroQt rfl rfl rfl zeroQt_ok R0.out.2 (by rw [List.size_toArray, Qt.len zeroQt_ok]) (fun w9 hd ho => hK _ _ ?_)
    clear hK
    replace BW := Hi (ho.below w.heap.size (by have := HG.out; omega) _ BW.out)
    have YD := Hi hd
    clear hd ho
    go_wp2_with fail
    have HZ : RF = ([], zeroQt.ct, 1) := by
        rw [HRF.out]; unfold makeF; rw [if_pos (Or.inr h8)]
    rw [HZ]
    exact bodyPost_ret (res_q3 rfl _ _ (g + 1) rfl zeroQt YD.out) rfl ⟨⟨nilB, zeroQt, rfl, rfl, nilB_pn _ _, ⟨zeroQt_ok, nilB_pn _ _⟩, rfl⟩, fun _ => BW.out, fun e => absurd e (by decide)⟩
  have NW : Hid (¬ (now < 0 ∨ 8 ≤ now)) := Hi (by omega)
  go_enter Try.func19, Try.ntmps19
  go_wp2_with fail
  change Code.wp _ _ _ _ ((w.alloc (.cells es 31)).alloc (.cells zeroQt.C.toArray 47))
  generalize ((w.alloc (.cells es 31)).alloc (.cells zeroQt.C.toArray 47)) = wr at *
  obtain ⟨g, hg⟩ : ∃ i, i = w.heap.size := ⟨_, rfl⟩
  rw [← hg] at V0 R0 ⊢
  have HG := Hi hg
  clear hg
  have CI0 := Hi (CW.out.ext BW.out)
  have hS0 : ∀ (listed : Array Bool) (f : Nat → Value), (∀ i, listed.getD i false = false) → MK 15 11 12 13 16 wr RC RE listed f wr.drew := fun listed f h0 => MK.start h0 (ex_drewN wr 1)
  obtain ⟨T, hT⟩ : ∃ T : List (Value → Prop), T = [(fun zz => zz = .pointer (some ⟨C, 0, none⟩)), (fun zz => zz = .pointer (some ⟨C, 0, none⟩)), (fun zz => zz = .pointer (some ⟨C, 0, none⟩)), (fun zz => zz = .int .i64 n), (fun zz => zz = .pointer (some ⟨C, 0, none⟩)), (fun zz => zz = .int .u64 got.length), (fun zz => zz = .pointer (some ⟨C, 0, none⟩)), (fun zz => zz = .pointer (some ⟨C, 0, none⟩)), (fun zz => zz = .pointer (some ⟨C, 1, none⟩)), (fun zz => zz = digV k), (fun zz => zz = x.V), (fun zz => ∃ v : Value, zz = .tuple #[v, .int .i64 RE]), (fun zz => ∃ v : Value, zz = .tuple #[v, .int .i64 RE]), (fun _ => True), (fun zz => zz = .int .i64 RE), (fun _ => True), (fun _ => True), (fun zz => zz = .int .i64 RE)] := ⟨_, rfl⟩
  refine wp_region_gen (JS T ([(12, 11), (13, 12), (16, 0), (16, 1), (16, 2), (16, 3), (16, 4), (16, 5), (16, 6), (16, 7), (16, 8), (16, 9), (16, 10), (16, 11), (16, 12), (16, 13), (16, 15)] : List (Nat × Nat)) (MK 15 11 12 13 16 wr RC RE)) (by kernel_rfl) (by kernel_rfl) (by kernel_rfl) (fitB_spec (by kernel_rfl)) (fun listed f h => JS.start listed f h (hS0 listed f h)) ?_ ?_
  · intro i o ho
    have hi : i < 18 := (Array.getElem?_eq_some_iff.1 ho).1
    have hi' : i = 0 ∨ i = 1 ∨ i = 2 ∨ i = 3 ∨ i = 4 ∨ i = 5 ∨ i = 6 ∨ i = 7 ∨ i = 8 ∨ i = 9 ∨ i = 10 ∨ i = 11 ∨ i = 12 ∨ i = 13 ∨ i = 14 ∨ i = 15 ∨ i = 16 ∨ i = 17 := by omega
    clear hi
    rcases hi' with rfl | rfl | rfl | rfl | rfl | rfl | rfl | rfl | rfl | rfl | rfl | rfl | rfl | rfl | rfl | rfl | rfl | rfl
    all_goals (simp only [List.getElem?_toArray, List.getElem?_cons_zero, List.getElem?_cons_succ, Option.some.injEq] at ho; subst ho; intro listed f a w2 hJ hsz hls hun hdep hout hlat; first | (rw [if_pos (by rfl)]; intro K hK) | skip)
    · have q0 := hout 0 ob
      have hord : ∀ x ∈ ([(12, 11), (13, 12), (16, 0), (16, 1), (16, 2), (16, 3), (16, 4), (16, 5), (16, 6), (16, 7), (16, 8), (16, 9), (16, 10), (16, 11), (16, 12), (16, 13), (16, 15)] : List (Nat × Nat)), x.1 = 0 → listed.getD x.2 false = true := (by intro x hx he; simp only [List.mem_cons, List.not_mem_nil, or_false] at hx; rcases hx with rfl | rfl | rfl | rfl | rfl | rfl | rfl | rfl | rfl | rfl | rfl | rfl | rfl | rfl | rfl | rfl | rfl; all_goals first | (exact absurd he (by decide)) | assumption)
      exact wp_mw _ rfl q0 (hK _ _ (hJ.nx hls hT rfl rfl (hJ.st.step (by decide) (by decide) (by decide) (by decide) (by decide) (Ex.refl _)) hord))
    · have q21 := hJ.is hT (hdep ⟨0, .data⟩ (by simp) rfl) rfl _ rfl _ rfl
      have hord : ∀ x ∈ ([(12, 11), (13, 12), (16, 0), (16, 1), (16, 2), (16, 3), (16, 4), (16, 5), (16, 6), (16, 7), (16, 8), (16, 9), (16, 10), (16, 11), (16, 12), (16, 13), (16, 15)] : List (Nat × Nat)), x.1 = 1 → listed.getD x.2 false = true := (by intro x hx he; simp only [List.mem_cons, List.not_mem_nil, or_false] at hx; rcases hx with rfl | rfl | rfl | rfl | rfl | rfl | rfl | rfl | rfl | rfl | rfl | rfl | rfl | rfl | rfl | rfl | rfl; all_goals first | (exact absurd he (by decide)) | assumption)
      rw [gd9] at q21
      clear hsz hdep hout hlat
      go_simp
      exact hK _ _ (hJ.nx hls hT rfl (by first | rfl | exact congrArg (Value.int .i64) (by omega) | exact congrArg (Value.int .i64) (by rw [IntKind.wrap_i64]; omega) | exact congrArg Value.bool (decide_eq_false (by omega)) | exact congrArg Value.bool (decide_eq_true (by omega)) | exact congrArg (Value.int .u64) (by omega)) (hJ.st.step (by decide) (by decide) (by decide) (by decide) (by decide) (Ex.refl _)) hord)
    · have q22 := hJ.is hT (hdep ⟨1, .data⟩ (by simp) rfl) rfl _ rfl _ rfl
      have hord : ∀ x ∈ ([(12, 11), (13, 12), (16, 0), (16, 1), (16, 2), (16, 3), (16, 4), (16, 5), (16, 6), (16, 7), (16, 8), (16, 9), (16, 10), (16, 11), (16, 12), (16, 13), (16, 15)] : List (Nat × Nat)), x.1 = 2 → listed.getD x.2 false = true := (by intro x hx he; simp only [List.mem_cons, List.not_mem_nil, or_false] at hx; rcases hx with rfl | rfl | rfl | rfl | rfl | rfl | rfl | rfl | rfl | rfl | rfl | rfl | rfl | rfl | rfl | rfl | rfl; all_goals first | (exact absurd he (by decide)) | assumption)
      rw [gd9] at q22
      clear hsz hdep hout hlat
      go_simp
      exact hK _ _ (hJ.nx hls hT rfl (by first | rfl | exact congrArg (Value.int .i64) (by omega) | exact congrArg (Value.int .i64) (by rw [IntKind.wrap_i64]; omega) | exact congrArg Value.bool (decide_eq_false (by omega)) | exact congrArg Value.bool (decide_eq_true (by omega)) | exact congrArg (Value.int .u64) (by omega)) (hJ.st.step (by decide) (by decide) (by decide) (by decide) (by decide) (Ex.refl _)) hord)
    · have q23 := hJ.is hT (hdep ⟨2, .data⟩ (by simp) rfl) rfl _ rfl _ rfl
      have hord : ∀ x ∈ ([(12, 11), (13, 12), (16, 0), (16, 1), (16, 2), (16, 3), (16, 4), (16, 5), (16, 6), (16, 7), (16, 8), (16, 9), (16, 10), (16, 11), (16, 12), (16, 13), (16, 15)] : List (Nat × Nat)), x.1 = 3 → listed.getD x.2 false = true := (by intro x hx he; simp only [List.mem_cons, List.not_mem_nil, or_false] at hx; rcases hx with rfl | rfl | rfl | rfl | rfl | rfl | rfl | rfl | rfl | rfl | rfl | rfl | rfl | rfl | rfl | rfl | rfl; all_goals first | (exact absurd he (by decide)) | assumption)
      rw [gd9] at q23
      have c6 := (CI0.out.ext hJ.st.1).c0
      clear hsz hdep hout hlat
      go_simp
      exact hK _ _ (hJ.nx hls hT rfl rfl (hJ.st.step (by decide) (by decide) (by decide) (by decide) (by decide) (Ex.refl _)) hord)
    · have q0 := hout 0 ob
      have hord : ∀ x ∈ ([(12, 11), (13, 12), (16, 0), (16, 1), (16, 2), (16, 3), (16, 4), (16, 5), (16, 6), (16, 7), (16, 8), (16, 9), (16, 10), (16, 11), (16, 12), (16, 13), (16, 15)] : List (Nat × Nat)), x.1 = 4 → listed.getD x.2 false = true := (by intro x hx he; simp only [List.mem_cons, List.not_mem_nil, or_false] at hx; rcases hx with rfl | rfl | rfl | rfl | rfl | rfl | rfl | rfl | rfl | rfl | rfl | rfl | rfl | rfl | rfl | rfl | rfl; all_goals first | (exact absurd he (by decide)) | assumption)
      exact wp_mw _ rfl q0 (hK _ _ (hJ.nx hls hT rfl rfl (hJ.st.step (by decide) (by decide) (by decide) (by decide) (by decide) (Ex.refl _)) hord))
    · have q25 := hJ.is hT (hdep ⟨4, .data⟩ (by simp) rfl) rfl _ rfl _ rfl
      have hord : ∀ x ∈ ([(12, 11), (13, 12), (16, 0), (16, 1), (16, 2), (16, 3), (16, 4), (16, 5), (16, 6), (16, 7), (16, 8), (16, 9), (16, 10), (16, 11), (16, 12), (16, 13), (16, 15)] : List (Nat × Nat)), x.1 = 5 → listed.getD x.2 false = true := (by intro x hx he; simp only [List.mem_cons, List.not_mem_nil, or_false] at hx; rcases hx with rfl | rfl | rfl | rfl | rfl | rfl | rfl | rfl | rfl | rfl | rfl | rfl | rfl | rfl | rfl | rfl | rfl; all_goals first | (exact absurd he (by decide)) | assumption)
      rw [gd9] at q25
      clear hsz hdep hout hlat
      go_simp
      refine (asked_any B C n k rv got w2 (CI0.out.ext hJ.st.1)).mono ?_
      rintro e w3 ⟨rfl, rfl⟩
      exact hK _ _ (hJ.nx hls hT rfl rfl (hJ.st.step (by decide) (by decide) (by decide) (by decide) (by decide) (Ex.refl _)) hord)
    · have q0 := hout 0 ob
      have hord : ∀ x ∈ ([(12, 11), (13, 12), (16, 0), (16, 1), (16, 2), (16, 3), (16, 4), (16, 5), (16, 6), (16, 7), (16, 8), (16, 9), (16, 10), (16, 11), (16, 12), (16, 13), (16, 15)] : List (Nat × Nat)), x.1 = 6 → listed.getD x.2 false = true := (by intro x hx he; simp only [List.mem_cons, List.not_mem_nil, or_false] at hx; rcases hx with rfl | rfl | rfl | rfl | rfl | rfl | rfl | rfl | rfl | rfl | rfl | rfl | rfl | rfl | rfl | rfl | rfl; all_goals first | (exact absurd he (by decide)) | assumption)
      exact wp_mw _ rfl q0 (hK _ _ (hJ.nx hls hT rfl rfl (hJ.st.step (by decide) (by decide) (by decide) (by decide) (by decide) (Ex.refl _)) hord))
    · have q27 := hJ.is hT (hdep ⟨6, .data⟩ (by simp) rfl) rfl _ rfl _ rfl
      have hord : ∀ x ∈ ([(12, 11), (13, 12), (16, 0), (16, 1), (16, 2), (16, 3), (16, 4), (16, 5), (16, 6), (16, 7), (16, 8), (16, 9), (16, 10), (16, 11), (16, 12), (16, 13), (16, 15)] : List (Nat × Nat)), x.1 = 7 → listed.getD x.2 false = true := (by intro x hx he; simp only [List.mem_cons, List.not_mem_nil, or_false] at hx; rcases hx with rfl | rfl | rfl | rfl | rfl | rfl | rfl | rfl | rfl | rfl | rfl | rfl | rfl | rfl | rfl | rfl | rfl; all_goals first | (exact absurd he (by decide)) | assumption)
      rw [gd9] at q27
      clear hsz hdep hout hlat
      go_simp
      exact hK _ _ (hJ.nx hls hT rfl (by first | rfl | exact congrArg (Value.int .i64) (by omega) | exact congrArg (Value.int .i64) (by rw [IntKind.wrap_i64]; omega) | exact congrArg Value.bool (decide_eq_false (by omega)) | exact congrArg Value.bool (decide_eq_true (by omega)) | exact congrArg (Value.int .u64) (by omega)) (hJ.st.step (by decide) (by decide) (by decide) (by decide) (by decide) (Ex.refl _)) hord)
    · have q28 := hJ.is hT (hdep ⟨7, .data⟩ (by simp) rfl) rfl _ rfl _ rfl
      have hord : ∀ x ∈ ([(12, 11), (13, 12), (16, 0), (16, 1), (16, 2), (16, 3), (16, 4), (16, 5), (16, 6), (16, 7), (16, 8), (16, 9), (16, 10), (16, 11), (16, 12), (16, 13), (16, 15)] : List (Nat × Nat)), x.1 = 8 → listed.getD x.2 false = true := (by intro x hx he; simp only [List.mem_cons, List.not_mem_nil, or_false] at hx; rcases hx with rfl | rfl | rfl | rfl | rfl | rfl | rfl | rfl | rfl | rfl | rfl | rfl | rfl | rfl | rfl | rfl | rfl; all_goals first | (exact absurd he (by decide)) | assumption)
      rw [gd9] at q28
      clear hsz hdep hout hlat
      go_simp
      exact hK _ _ (hJ.nx hls hT rfl (by first | rfl | exact congrArg (Value.int .i64) (by omega) | exact congrArg (Value.int .i64) (by rw [IntKind.wrap_i64]; omega) | exact congrArg Value.bool (decide_eq_false (by omega)) | exact congrArg Value.bool (decide_eq_true (by omega)) | exact congrArg (Value.int .u64) (by omega)) (hJ.st.step (by decide) (by decide) (by decide) (by decide) (by decide) (Ex.refl _)) hord)
    · have q29 := hJ.is hT (hdep ⟨8, .data⟩ (by simp) rfl) rfl _ rfl _ rfl
      have hord : ∀ x ∈ ([(12, 11), (13, 12), (16, 0), (16, 1), (16, 2), (16, 3), (16, 4), (16, 5), (16, 6), (16, 7), (16, 8), (16, 9), (16, 10), (16, 11), (16, 12), (16, 13), (16, 15)] : List (Nat × Nat)), x.1 = 9 → listed.getD x.2 false = true := (by intro x hx he; simp only [List.mem_cons, List.not_mem_nil, or_false] at hx; rcases hx with rfl | rfl | rfl | rfl | rfl | rfl | rfl | rfl | rfl | rfl | rfl | rfl | rfl | rfl | rfl | rfl | rfl; all_goals first | (exact absurd he (by decide)) | assumption)
      exact ld_ckey (.tmp 29) (CI0.out.ext hJ.st.1) rfl q29 (hK _ _ (hJ.nx hls hT rfl rfl (hJ.st.step (by decide) (by decide) (by decide) (by decide) (by decide) (Ex.refl _)) hord))
    · have q5 := hout 5 ob
      have hord : ∀ x ∈ ([(12, 11), (13, 12), (16, 0), (16, 1), (16, 2), (16, 3), (16, 4), (16, 5), (16, 6), (16, 7), (16, 8), (16, 9), (16, 10), (16, 11), (16, 12), (16, 13), (16, 15)] : List (Nat × Nat)), x.1 = 10 → listed.getD x.2 false = true := (by intro x hx he; simp only [List.mem_cons, List.not_mem_nil, or_false] at hx; rcases hx with rfl | rfl | rfl | rfl | rfl | rfl | rfl | rfl | rfl | rfl | rfl | rfl | rfl | rfl | rfl | rfl | rfl; all_goals first | (exact absurd he (by decide)) | assumption)
      exact ld_w (.tmp 5) g x rfl q5 (V0.out.ext hJ.st.1) (hK _ _ (hJ.nx hls hT rfl rfl (hJ.st.step (by decide) (by decide) (by decide) (by decide) (by decide) (Ex.refl _)) hord))
    · have q24 := hJ.is hT (hdep ⟨3, .data⟩ (by simp) rfl) rfl _ rfl _ rfl
      have q26 := hJ.is hT (hdep ⟨5, .data⟩ (by simp) rfl) rfl _ rfl _ rfl
      have q30 := hJ.is hT (hdep ⟨9, .data⟩ (by simp) rfl) rfl _ rfl _ rfl
      have q31 := hJ.is hT (hdep ⟨10, .data⟩ (by simp) rfl) rfl _ rfl _ rfl
      have hord : ∀ x ∈ ([(12, 11), (13, 12), (16, 0), (16, 1), (16, 2), (16, 3), (16, 4), (16, 5), (16, 6), (16, 7), (16, 8), (16, 9), (16, 10), (16, 11), (16, 12), (16, 13), (16, 15)] : List (Nat × Nat)), x.1 = 11 → listed.getD x.2 false = true := (by intro x hx he; simp only [List.mem_cons, List.not_mem_nil, or_false] at hx; rcases hx with rfl | rfl | rfl | rfl | rfl | rfl | rfl | rfl | rfl | rfl | rfl | rfl | rfl | rfl | rfl | rfl | rfl; all_goals first | (exact absurd he (by decide)) | assumption)
      have nl : listed.getD 16 false = false := by
        cases hc : listed.getD 16 false with
        | false => rfl
        | true => exact absurd (hJ.ord (16, 11) (by simp) hc) (by rw [hun]; decide)
      have nt : listed.getD 12 false = false := by
        cases hc : listed.getD 12 false with
        | false => rfl
        | true => exact absurd (hJ.ord (12, 11) (by simp) hc) (by rw [hun]; decide)
      have nx : listed.getD 13 false = false := by
        cases hc : listed.getD 13 false with
        | false => rfl
        | true => exact absurd (hJ.ord (13, 12) (by simp) hc) (by rw [nt]; decide)
      rw [gd9] at q24
      rw [gd9] at q26
      rw [gd9] at q30
      rw [gd9] at q31
      have n0 := CW.out.n0
      have n1 := CW.out.n1
      have f9 := CW.out.few
      clear hsz hdep hout hlat
      go_simp
      refine (creqst_any n got.length (by omega) (by omega) (by omega) (by omega) k CW.out.kN x w2 (HX.out.ext (Ex.trans BW.out hJ.st.1))).mono ?_
      rintro e w3 ⟨y, rfl, yi, yc, x3⟩
      rw [← HE.out]
      exact hK _ _ (hJ.nx hls hT rfl (by exact ⟨_, rfl⟩) (hJ.st.call (by decide) (by decide) (by decide) (by decide) nl nt nx x3 y yi (yc.trans HC.out.symm)) hord)
    · have dd32 := hdep ⟨11, .data⟩ (by simp) rfl
      have q32 := dd32.2 _ rfl _ rfl
      have h32 := hJ.vals 11 dd32.1
      rw [hT] at h32
      have h32 : (fun zz => ∃ v : Value, zz = .tuple #[v, .int .i64 RE]) (f 11) := h32
      clear dd32
      have hl11 := (hdep ⟨11, .data⟩ (by simp) rfl).1
      have hord : ∀ x ∈ ([(12, 11), (13, 12), (16, 0), (16, 1), (16, 2), (16, 3), (16, 4), (16, 5), (16, 6), (16, 7), (16, 8), (16, 9), (16, 10), (16, 11), (16, 12), (16, 13), (16, 15)] : List (Nat × Nat)), x.1 = 12 → listed.getD x.2 false = true := (by intro x hx he; simp only [List.mem_cons, List.not_mem_nil, or_false] at hx; rcases hx with rfl | rfl | rfl | rfl | rfl | rfl | rfl | rfl | rfl | rfl | rfl | rfl | rfl | rfl | rfl | rfl | rfl; all_goals first | (exact absurd he (by decide)) | assumption)
      have nl : listed.getD 16 false = false := by
        cases hc : listed.getD 16 false with
        | false => rfl
        | true => exact absurd (hJ.ord (16, 12) (by simp) hc) (by rw [hun]; decide)
      have nx : listed.getD 13 false = false := by
        cases hc : listed.getD 13 false with
        | false => rfl
        | true => exact absurd (hJ.ord (13, 12) (by simp) hc) (by rw [hun]; decide)
      exact wp_mw _ rfl q32 (hK _ _ (hJ.nx hls hT rfl (by exact h32) (hJ.st.tup (by decide) (by decide) (by decide) (by decide) nl nx) hord))
    · have dd20 := hdep ⟨12, .data⟩ (by simp) rfl
      have q20 := dd20.2 _ rfl _ rfl
      have h20 := hJ.vals 12 dd20.1
      rw [hT] at h20
      have h20 : (fun zz => ∃ v : Value, zz = .tuple #[v, .int .i64 RE]) (f 12) := h20
      clear dd20
      have hl12 := (hdep ⟨12, .data⟩ (by simp) rfl).1
      have hord : ∀ x ∈ ([(12, 11), (13, 12), (16, 0), (16, 1), (16, 2), (16, 3), (16, 4), (16, 5), (16, 6), (16, 7), (16, 8), (16, 9), (16, 10), (16, 11), (16, 12), (16, 13), (16, 15)] : List (Nat × Nat)), x.1 = 13 → listed.getD x.2 false = true := (by intro x hx he; simp only [List.mem_cons, List.not_mem_nil, or_false] at hx; rcases hx with rfl | rfl | rfl | rfl | rfl | rfl | rfl | rfl | rfl | rfl | rfl | rfl | rfl | rfl | rfl | rfl | rfl; all_goals first | (exact absurd he (by decide)) | assumption)
      have nl : listed.getD 16 false = false := by
        cases hc : listed.getD 16 false with
        | false => rfl
        | true => exact absurd (hJ.ord (16, 13) (by simp) hc) (by rw [hun]; decide)
      have l12 := (hdep ⟨12, .data⟩ (by simp) rfl).1
      obtain ⟨y9, e9, _, _, e8, _⟩ := (hJ.st.2.1 nl).2 (hJ.ord (12, 11) (by simp) l12)
      have z9 : f 12 = .tuple #[y9.V, .int .i64 RE] := (e8 l12).trans e9
      rw [z9] at q20
      rw [gd9] at q20
      clear hsz hdep hout hlat e8 e9
      go_simp
      exact hK _ _ (hJ.nx hls hT rfl (by exact trivial) (hJ.st.ext (by decide) (by decide) (by decide) (by decide) nl l12 z9) hord)
    · have dd20 := hdep ⟨12, .data⟩ (by simp) rfl
      have q20 := dd20.2 _ rfl _ rfl
      have h20 := hJ.vals 12 dd20.1
      rw [hT] at h20
      have h20 : (fun zz => ∃ v : Value, zz = .tuple #[v, .int .i64 RE]) (f 12) := h20
      clear dd20
      have hord : ∀ x ∈ ([(12, 11), (13, 12), (16, 0), (16, 1), (16, 2), (16, 3), (16, 4), (16, 5), (16, 6), (16, 7), (16, 8), (16, 9), (16, 10), (16, 11), (16, 12), (16, 13), (16, 15)] : List (Nat × Nat)), x.1 = 14 → listed.getD x.2 false = true := (by intro x hx he; simp only [List.mem_cons, List.not_mem_nil, or_false] at hx; rcases hx with rfl | rfl | rfl | rfl | rfl | rfl | rfl | rfl | rfl | rfl | rfl | rfl | rfl | rfl | rfl | rfl | rfl; all_goals first | (exact absurd he (by decide)) | assumption)
      obtain ⟨v9, e9⟩ := h20
      rw [e9] at q20
      rw [gd9] at q20
      clear hsz hdep hout hlat e9
      go_simp
      exact hK _ _ (hJ.nx hls hT rfl rfl (hJ.st.step (by decide) (by decide) (by decide) (by decide) (by decide) (Ex.refl _)) hord)
    · have hord : ∀ x ∈ ([(12, 11), (13, 12), (16, 0), (16, 1), (16, 2), (16, 3), (16, 4), (16, 5), (16, 6), (16, 7), (16, 8), (16, 9), (16, 10), (16, 11), (16, 12), (16, 13), (16, 15)] : List (Nat × Nat)), x.1 = 15 → listed.getD x.2 false = true := (by intro x hx he; simp only [List.mem_cons, List.not_mem_nil, or_false] at hx; rcases hx with rfl | rfl | rfl | rfl | rfl | rfl | rfl | rfl | rfl | rfl | rfl | rfl | rfl | rfl | rfl | rfl | rfl; all_goals first | (exact absurd he (by decide)) | assumption)
      have nl : listed.getD 16 false = false := by
        cases hc : listed.getD 16 false with
        | false => rfl
        | true => exact absurd (hJ.ord (16, 15) (by simp) hc) (by rw [hun]; decide)
      clear hsz hdep hout hlat
      go_simp
      exact hK _ _ (hJ.nx hls hT rfl (by exact trivial) (hJ.st.alloc (by decide) (by decide) (by decide) (by decide) nl) hord)
    · have dd9 := hdep ⟨15, .data⟩ (by simp) rfl
      have q9 := dd9.2 _ rfl _ rfl
      have dd33 := hdep ⟨13, .data⟩ (by simp) rfl
      have q33 := dd33.2 _ rfl _ rfl
      have hl0 := (hdep ⟨0, .phase⟩ (by simp) rfl).1
      have hl1 := (hdep ⟨1, .phase⟩ (by simp) rfl).1
      have hl2 := (hdep ⟨2, .phase⟩ (by simp) rfl).1
      have hl3 := (hdep ⟨3, .phase⟩ (by simp) rfl).1
      have hl4 := (hdep ⟨4, .phase⟩ (by simp) rfl).1
      have hl5 := (hdep ⟨5, .phase⟩ (by simp) rfl).1
      have hl6 := (hdep ⟨6, .phase⟩ (by simp) rfl).1
      have hl7 := (hdep ⟨7, .phase⟩ (by simp) rfl).1
      have hl8 := (hdep ⟨8, .phase⟩ (by simp) rfl).1
      have hl9 := (hdep ⟨9, .phase⟩ (by simp) rfl).1
      have hl10 := (hdep ⟨10, .phase⟩ (by simp) rfl).1
      have hl11 := (hdep ⟨11, .chain⟩ (by simp) rfl).1
      have hl12 := (hdep ⟨12, .phase⟩ (by simp) rfl).1
      have hl13 := (hdep ⟨13, .data⟩ (by simp) rfl).1
      have hl15 := (hdep ⟨15, .data⟩ (by simp) rfl).1
      have hord : ∀ x ∈ ([(12, 11), (13, 12), (16, 0), (16, 1), (16, 2), (16, 3), (16, 4), (16, 5), (16, 6), (16, 7), (16, 8), (16, 9), (16, 10), (16, 11), (16, 12), (16, 13), (16, 15)] : List (Nat × Nat)), x.1 = 16 → listed.getD x.2 false = true := (by intro x hx he; simp only [List.mem_cons, List.not_mem_nil, or_false] at hx; rcases hx with rfl | rfl | rfl | rfl | rfl | rfl | rfl | rfl | rfl | rfl | rfl | rfl | rfl | rfl | rfl | rfl | rfl; all_goals first | (exact absurd he (by decide)) | assumption)
      have l15 := (hdep ⟨15, .data⟩ (by simp) rfl).1
      have l11 := (hdep ⟨11, .chain⟩ (by simp) rfl).1
      have l13 := (hdep ⟨13, .data⟩ (by simp) rfl).1
      obtain ⟨i9, a9, b9, c9⟩ := (hJ.st.2.1 hun).1 l15
      obtain ⟨y9, _, yi, yc, _, e8⟩ := (hJ.st.2.1 hun).2 l11
      rw [a9] at q9
      rw [e8 l13] at q33
      refine st_q (.tmp 9) (.tmp 33) i9 y9 rfl q9 q33 yi.1 c9 (by rw [List.size_toArray, Qt.len zeroQt_ok]) (fun w9 hd ho => ?_)
      exact hK _ _ (hJ.nx hls hT rfl (by exact trivial) (hJ.st.store (by decide) a9 b9 c9 yi.2 yc (by rw [hls]; decide) hd ho) hord)
    have q34 := hJ.is hT (hdep ⟨14, .data⟩ (by simp) rfl) rfl _ rfl _ rfl
    have hord : ∀ x ∈ ([(12, 11), (13, 12), (16, 0), (16, 1), (16, 2), (16, 3), (16, 4), (16, 5), (16, 6), (16, 7), (16, 8), (16, 9), (16, 10), (16, 11), (16, 12), (16, 13), (16, 15)] : List (Nat × Nat)), x.1 = 17 → listed.getD x.2 false = true := (by intro x hx he; simp only [List.mem_cons, List.not_mem_nil, or_false] at hx; rcases hx with rfl | rfl | rfl | rfl | rfl | rfl | rfl | rfl | rfl | rfl | rfl | rfl | rfl | rfl | rfl | rfl | rfl; all_goals first | (exact absurd he (by decide)) | assumption)
    rw [gd9] at q34
    clear hsz hdep hout hlat
    go_simp
    exact hK _ _ (hJ.nx hls hT rfl (by first | rfl | exact congrArg (Value.int .i64) (by omega) | exact congrArg (Value.int .i64) (by rw [IntKind.wrap_i64]; omega) | exact congrArg Value.bool (decide_eq_false (by omega)) | exact congrArg Value.bool (decide_eq_true (by omega)) | exact congrArg (Value.int .u64) (by omega)) (hJ.st.step (by decide) (by decide) (by decide) (by decide) (by decide) (Ex.refl _)) hord)
  intro listed f w2 hall hJ
  have f17 := hJ.fa hT (hall 17 (by simp)) rfl
  have hst := hJ.st
  simp only [putAll, Act.put, List.setIfInBounds_toArray, List.set_cons_zero, List.set_cons_succ, Nat.zero_add, Nat.reduceAdd]
  obtain ⟨i9, yq, a9, b9, c9, d9, e9⟩ := hst.2.2 (hall 16 (by simp))
  have x9 := hst.1
  have a9 : f 15 = .pointer (some ⟨i9, 0, none⟩) := a9
  clear hst hS0
  rw [a9]
  have Y := Hi c9
  have YP := Hi d9
  have YC := Hi e9
  have LO := Hi b9
  clear a9 b9 c9 d9 e9
  rw [f17]
  clear f17
  clear hJ hall hT
  have LT : Hid (g + 1 < i9) := Hi (Nat.lt_of_lt_of_le R0.out.lt LO.out)
  replace BW := Hi (Ex.trans BW.out x9)
  replace V0 := Hi (V0.out.ext x9)
  replace R0 := Hi (R0.out.ext x9)
  clear x9 LO
  by_cases hz : RE = 0
  rotate_left
  · have NZ := Hi hz
    have hb : (RE == 0) = false := by simpa using hz
    go_wp2_with ((with_reducible refine so7 [1000 + 3, 1000 + 23, 1000 + 97] ?_ ?_); (focus rfl))
    refine at9 (by go_simp) fun K0 hK => wp_build _ _ rfl _ built_zreq (hK _ _ ?_)
    clear hK
    go_wp2_with ((with_reducible refine so7 [1000 + 3, 1000 + 23, 1000 + 97] ?_ ?_); (focus rfl))
    refine at9 (by go_simp) fun K0 hK => st_q _ _ (g + 1) zeroQt rfl rfl rfl zeroQt_ok R0.out.2 (by rw [List.size_toArray, Qt.len zeroQt_ok]) (fun w9 hd ho => hK _ _ ?_)
    clear hK
    replace BW := Hi (ho.below w.heap.size (by have := HG.out; omega) _ BW.out)
    have YD := Hi hd
    clear hd ho
    go_wp2_with fail
    have HZ : RF = ([], zeroQt.ct, RE) := by
        rw [HRF.out]; unfold makeF; rw [if_neg NW.out, if_neg (by rw [← HE.out]; exact NZ.out), ← HE.out, reqF_z (by rw [← HE.out]; exact NZ.out)]
    rw [HZ]
    exact bodyPost_ret (res_q3 rfl _ _ (g + 1) rfl zeroQt YD.out) rfl ⟨⟨nilB, zeroQt, rfl, rfl, nilB_pn _ _, ⟨zeroQt_ok, nilB_pn _ _⟩, rfl⟩, fun _ => BW.out, fun e => absurd e (by exact NZ.out)⟩
  have RR : Hid (yq.ct.right = true ∧ yq.ct.num = got.length ∧ yq.ct.client = n) := Hi (by rw [YC.out, HC.out]; exact reqF_right (by rw [← HE.out]; exact hz))
  have HZ := Hi hz
  subst hz
  go_wp2_with ((with_reducible refine so7 [1000 + 3, 1000 + 23, 1000 + 97] ?_ ?_); (focus rfl))
  refine at9 (by go_simp) fun K0 hK => ld_q _ i9 yq rfl rfl Y.out (hK _ _ ?_)
  clear hK
  go_wp2_with ((with_reducible refine so7 [1000 + 3, 1000 + 23, 1000 + 97] ?_ ?_); (focus rfl))
  refine (creq_any yq _ ⟨Y.out.1, YP.out.1⟩).mono ?_
  rintro e w3 ⟨cv, rfl, co, x3⟩
  rw [if_pos RR.out.1] at co
  rw [if_pos RR.out.1]
  obtain ⟨cp, rfl, cl, cn⟩ := own_pn co
  have CL := Hi cl
  have CN := Hi (cn.less (Nat.zero_le _))
  clear co cl cn
  replace BW := Hi (Ex.trans BW.out x3)
  replace Y := Hi (Y.out.ext x3)
  replace YP := Hi (YP.out.ext x3)
  replace R0 := Hi (R0.out.ext x3)
  replace V0 := Hi (V0.out.ext x3)
  clear x3
  go_wp2_with fail
  have f9 := LF.out
  have N0 : 0 ≤ now := by have := NW.out; omega
  have N8 : now < 8 := by have := NW.out; omega
  have n0 := CW.out.n0
  have n1 := CW.out.n1
  have hS0 : ∀ (listed : Array Bool) (f : Nat → Value), (∀ i, listed.getD i false = false) → LK 16 17 18 20 w3 (Sm.closeL k ((got.length : Int) * 4 + n) (Sm.by8 now) cp.l) listed f w3.drew := fun listed f h0 => LK.start h0 (ex_drewN w3 1)
  obtain ⟨T, hT⟩ : ∃ T : List (Value → Prop), T = [(fun zz => zz = .pointer (some ⟨C, 0, none⟩)), (fun zz => zz = .pointer (some ⟨C, 0, none⟩)), (fun zz => zz = .pointer (some ⟨C, 1, none⟩)), (fun zz => zz = digV k), (fun zz => zz = .pointer (some ⟨i9, 56, none⟩)), (fun zz => zz = .int .u64 got.length), (fun zz => zz = .int .u64 ((got.length : Int) * 4)), (fun zz => zz = .pointer (some ⟨C, 0, none⟩)), (fun zz => zz = .pointer (some ⟨C, 0, none⟩)), (fun zz => zz = .pointer (some ⟨C, 0, none⟩)), (fun zz => zz = .int .i64 n), (fun zz => zz = .int .u64 n), (fun zz => zz = .int .u64 ((got.length : Int) * 4 + n)), (fun zz => zz = .int .i64 now), (fun zz => zz = .int .u8 now), (fun zz => zz = cp.V), (fun zz => ∃ v : Value, zz = .tuple #[v, .int .i64 0]), (fun zz => ∃ v : Value, zz = .tuple #[v, .int .i64 0]), (fun _ => True), (fun zz => zz = .int .i64 0), (fun _ => True), (fun zz => zz = .int .i64 0)] := ⟨_, rfl⟩
  refine wp_region_gen (JS T ([(17, 16), (18, 17), (20, 18)] : List (Nat × Nat)) (LK 16 17 18 20 w3 (Sm.closeL k ((got.length : Int) * 4 + n) (Sm.by8 now) cp.l))) (by kernel_rfl) (by kernel_rfl) (by kernel_rfl) (fitB_spec (by kernel_rfl)) (fun listed f h => JS.start listed f h (hS0 listed f h)) ?_ ?_
  · intro i o ho
    have hi : i < 22 := (Array.getElem?_eq_some_iff.1 ho).1
    have hi' : i = 0 ∨ i = 1 ∨ i = 2 ∨ i = 3 ∨ i = 4 ∨ i = 5 ∨ i = 6 ∨ i = 7 ∨ i = 8 ∨ i = 9 ∨ i = 10 ∨ i = 11 ∨ i = 12 ∨ i = 13 ∨ i = 14 ∨ i = 15 ∨ i = 16 ∨ i = 17 ∨ i = 18 ∨ i = 19 ∨ i = 20 ∨ i = 21 := by omega
    clear hi
    rcases hi' with rfl | rfl | rfl | rfl | rfl | rfl | rfl | rfl | rfl | rfl | rfl | rfl | rfl | rfl | rfl | rfl | rfl | rfl | rfl | rfl | rfl | rfl
    all_goals (simp only [List.getElem?_toArray, List.getElem?_cons_zero, List.getElem?_cons_succ, Option.some.injEq] at ho; subst ho; intro listed f a w2 hJ hsz hls hun hdep hout hlat; first | (rw [if_pos (by rfl)]; intro K hK) | skip)
    · have q0 := hout 0 ob
      have hord : ∀ x ∈ ([(17, 16), (18, 17), (20, 18)] : List (Nat × Nat)), x.1 = 0 → listed.getD x.2 false = true := (by intro x hx he; simp only [List.mem_cons, List.not_mem_nil, or_false] at hx; rcases hx with rfl | rfl | rfl; all_goals first | (exact absurd he (by decide)) | assumption)
      exact wp_mw _ rfl q0 (hK _ _ (hJ.nx hls hT rfl rfl (hJ.st.step (by decide) (by decide) (by decide) (by decide) (Ex.refl _)) hord))
    · have q49 := hJ.is hT (hdep ⟨0, .data⟩ (by simp) rfl) rfl _ rfl _ rfl
      have hord : ∀ x ∈ ([(17, 16), (18, 17), (20, 18)] : List (Nat × Nat)), x.1 = 1 → listed.getD x.2 false = true := (by intro x hx he; simp only [List.mem_cons, List.not_mem_nil, or_false] at hx; rcases hx with rfl | rfl | rfl; all_goals first | (exact absurd he (by decide)) | assumption)
      rw [gd9] at q49
      clear hsz hdep hout hlat
      go_simp
      exact hK _ _ (hJ.nx hls hT rfl (by first | rfl | exact congrArg (Value.int .i64) (by omega) | exact congrArg (Value.int .i64) (by rw [IntKind.wrap_i64]; omega) | exact congrArg Value.bool (decide_eq_false (by omega)) | exact congrArg Value.bool (decide_eq_true (by omega)) | exact congrArg (Value.int .u64) (by omega)) (hJ.st.step (by decide) (by decide) (by decide) (by decide) (Ex.refl _)) hord)
    · have q50 := hJ.is hT (hdep ⟨1, .data⟩ (by simp) rfl) rfl _ rfl _ rfl
      have hord : ∀ x ∈ ([(17, 16), (18, 17), (20, 18)] : List (Nat × Nat)), x.1 = 2 → listed.getD x.2 false = true := (by intro x hx he; simp only [List.mem_cons, List.not_mem_nil, or_false] at hx; rcases hx with rfl | rfl | rfl; all_goals first | (exact absurd he (by decide)) | assumption)
      rw [gd9] at q50
      clear hsz hdep hout hlat
      go_simp
      exact hK _ _ (hJ.nx hls hT rfl (by first | rfl | exact congrArg (Value.int .i64) (by omega) | exact congrArg (Value.int .i64) (by rw [IntKind.wrap_i64]; omega) | exact congrArg Value.bool (decide_eq_false (by omega)) | exact congrArg Value.bool (decide_eq_true (by omega)) | exact congrArg (Value.int .u64) (by omega)) (hJ.st.step (by decide) (by decide) (by decide) (by decide) (Ex.refl _)) hord)
    · have q51 := hJ.is hT (hdep ⟨2, .data⟩ (by simp) rfl) rfl _ rfl _ rfl
      have hord : ∀ x ∈ ([(17, 16), (18, 17), (20, 18)] : List (Nat × Nat)), x.1 = 3 → listed.getD x.2 false = true := (by intro x hx he; simp only [List.mem_cons, List.not_mem_nil, or_false] at hx; rcases hx with rfl | rfl | rfl; all_goals first | (exact absurd he (by decide)) | assumption)
      exact ld_ckey (.tmp 51) (CW.out.ext (Ex.trans BW.out hJ.st.1)) rfl q51 (hK _ _ (hJ.nx hls hT rfl rfl (hJ.st.step (by decide) (by decide) (by decide) (by decide) (Ex.refl _)) hord))
    · have q9 := hout 9 ob
      have hord : ∀ x ∈ ([(17, 16), (18, 17), (20, 18)] : List (Nat × Nat)), x.1 = 4 → listed.getD x.2 false = true := (by intro x hx he; simp only [List.mem_cons, List.not_mem_nil, or_false] at hx; rcases hx with rfl | rfl | rfl; all_goals first | (exact absurd he (by decide)) | assumption)
      rw [gd9] at q9
      clear hsz hdep hout hlat
      go_simp
      exact hK _ _ (hJ.nx hls hT rfl (by first | rfl | exact congrArg (Value.int .i64) (by omega) | exact congrArg (Value.int .i64) (by rw [IntKind.wrap_i64]; omega) | exact congrArg Value.bool (decide_eq_false (by omega)) | exact congrArg Value.bool (decide_eq_true (by omega)) | exact congrArg (Value.int .u64) (by omega)) (hJ.st.step (by decide) (by decide) (by decide) (by decide) (Ex.refl _)) hord)
    · have q53 := hJ.is hT (hdep ⟨4, .data⟩ (by simp) rfl) rfl _ rfl _ rfl
      have hord : ∀ x ∈ ([(17, 16), (18, 17), (20, 18)] : List (Nat × Nat)), x.1 = 5 → listed.getD x.2 false = true := (by intro x hx he; simp only [List.mem_cons, List.not_mem_nil, or_false] at hx; rcases hx with rfl | rfl | rfl; all_goals first | (exact absurd he (by decide)) | assumption)
      rw [gd9] at q53
      have c6 := (Y.out.ext hJ.st.1).cells.2.2.2.2
      rw [show yq.num = (got.length : Int) from RR.out.2.1] at c6
      clear hsz hdep hout hlat
      go_simp
      exact hK _ _ (hJ.nx hls hT rfl rfl (hJ.st.step (by decide) (by decide) (by decide) (by decide) (Ex.refl _)) hord)
    · have q54 := hJ.is hT (hdep ⟨5, .data⟩ (by simp) rfl) rfl _ rfl _ rfl
      have hord : ∀ x ∈ ([(17, 16), (18, 17), (20, 18)] : List (Nat × Nat)), x.1 = 6 → listed.getD x.2 false = true := (by intro x hx he; simp only [List.mem_cons, List.not_mem_nil, or_false] at hx; rcases hx with rfl | rfl | rfl; all_goals first | (exact absurd he (by decide)) | assumption)
      rw [gd9] at q54
      clear hsz hdep hout hlat
      go_simp
      exact hK _ _ (hJ.nx hls hT rfl (by exact congrArg (Value.int .u64) (by first | omega | (unfold IntKind.wrap; simp [IntKind.bits, IntKind.signed]; omega) | (rw [IntKind.wrap_u64]; omega) | (simp [IntKind.wrap]; omega))) (hJ.st.step (by decide) (by decide) (by decide) (by decide) (Ex.refl _)) hord)
    · have q0 := hout 0 ob
      have hord : ∀ x ∈ ([(17, 16), (18, 17), (20, 18)] : List (Nat × Nat)), x.1 = 7 → listed.getD x.2 false = true := (by intro x hx he; simp only [List.mem_cons, List.not_mem_nil, or_false] at hx; rcases hx with rfl | rfl | rfl; all_goals first | (exact absurd he (by decide)) | assumption)
      exact wp_mw _ rfl q0 (hK _ _ (hJ.nx hls hT rfl rfl (hJ.st.step (by decide) (by decide) (by decide) (by decide) (Ex.refl _)) hord))
    · have q56 := hJ.is hT (hdep ⟨7, .data⟩ (by simp) rfl) rfl _ rfl _ rfl
      have hord : ∀ x ∈ ([(17, 16), (18, 17), (20, 18)] : List (Nat × Nat)), x.1 = 8 → listed.getD x.2 false = true := (by intro x hx he; simp only [List.mem_cons, List.not_mem_nil, or_false] at hx; rcases hx with rfl | rfl | rfl; all_goals first | (exact absurd he (by decide)) | assumption)
      rw [gd9] at q56
      clear hsz hdep hout hlat
      go_simp
      exact hK _ _ (hJ.nx hls hT rfl (by first | rfl | exact congrArg (Value.int .i64) (by omega) | exact congrArg (Value.int .i64) (by rw [IntKind.wrap_i64]; omega) | exact congrArg Value.bool (decide_eq_false (by omega)) | exact congrArg Value.bool (decide_eq_true (by omega)) | exact congrArg (Value.int .u64) (by omega)) (hJ.st.step (by decide) (by decide) (by decide) (by decide) (Ex.refl _)) hord)
    · have q57 := hJ.is hT (hdep ⟨8, .data⟩ (by simp) rfl) rfl _ rfl _ rfl
      have hord : ∀ x ∈ ([(17, 16), (18, 17), (20, 18)] : List (Nat × Nat)), x.1 = 9 → listed.getD x.2 false = true := (by intro x hx he; simp only [List.mem_cons, List.not_mem_nil, or_false] at hx; rcases hx with rfl | rfl | rfl; all_goals first | (exact absurd he (by decide)) | assumption)
      rw [gd9] at q57
      clear hsz hdep hout hlat
      go_simp
      exact hK _ _ (hJ.nx hls hT rfl (by first | rfl | exact congrArg (Value.int .i64) (by omega) | exact congrArg (Value.int .i64) (by rw [IntKind.wrap_i64]; omega) | exact congrArg Value.bool (decide_eq_false (by omega)) | exact congrArg Value.bool (decide_eq_true (by omega)) | exact congrArg (Value.int .u64) (by omega)) (hJ.st.step (by decide) (by decide) (by decide) (by decide) (Ex.refl _)) hord)
    · have q58 := hJ.is hT (hdep ⟨9, .data⟩ (by simp) rfl) rfl _ rfl _ rfl
      have hord : ∀ x ∈ ([(17, 16), (18, 17), (20, 18)] : List (Nat × Nat)), x.1 = 10 → listed.getD x.2 false = true := (by intro x hx he; simp only [List.mem_cons, List.not_mem_nil, or_false] at hx; rcases hx with rfl | rfl | rfl; all_goals first | (exact absurd he (by decide)) | assumption)
      rw [gd9] at q58
      have c6 := (CW.out.ext (Ex.trans BW.out hJ.st.1)).c0
      clear hsz hdep hout hlat
      go_simp
      exact hK _ _ (hJ.nx hls hT rfl rfl (hJ.st.step (by decide) (by decide) (by decide) (by decide) (Ex.refl _)) hord)
    · have q59 := hJ.is hT (hdep ⟨10, .data⟩ (by simp) rfl) rfl _ rfl _ rfl
      have hord : ∀ x ∈ ([(17, 16), (18, 17), (20, 18)] : List (Nat × Nat)), x.1 = 11 → listed.getD x.2 false = true := (by intro x hx he; simp only [List.mem_cons, List.not_mem_nil, or_false] at hx; rcases hx with rfl | rfl | rfl; all_goals first | (exact absurd he (by decide)) | assumption)
      rw [gd9] at q59
      clear hsz hdep hout hlat
      go_simp
      exact hK _ _ (hJ.nx hls hT rfl (by exact congrArg (Value.int .u64) (by first | omega | (unfold IntKind.wrap; simp [IntKind.bits, IntKind.signed]; omega) | (rw [IntKind.wrap_u64]; omega) | (simp [IntKind.wrap]; omega))) (hJ.st.step (by decide) (by decide) (by decide) (by decide) (Ex.refl _)) hord)
    · have q55 := hJ.is hT (hdep ⟨6, .data⟩ (by simp) rfl) rfl _ rfl _ rfl
      have q60 := hJ.is hT (hdep ⟨11, .data⟩ (by simp) rfl) rfl _ rfl _ rfl
      have hord : ∀ x ∈ ([(17, 16), (18, 17), (20, 18)] : List (Nat × Nat)), x.1 = 12 → listed.getD x.2 false = true := (by intro x hx he; simp only [List.mem_cons, List.not_mem_nil, or_false] at hx; rcases hx with rfl | rfl | rfl; all_goals first | (exact absurd he (by decide)) | assumption)
      rw [gd9] at q55
      rw [gd9] at q60
      clear hsz hdep hout hlat
      go_simp
      exact hK _ _ (hJ.nx hls hT rfl (by exact congrArg (Value.int .u64) (by first | omega | (unfold IntKind.wrap; simp [IntKind.bits, IntKind.signed]; omega) | (rw [IntKind.wrap_u64]; omega) | (simp [IntKind.wrap]; omega))) (hJ.st.step (by decide) (by decide) (by decide) (by decide) (Ex.refl _)) hord)
    · have q1 := hout 1 ob
      have hord : ∀ x ∈ ([(17, 16), (18, 17), (20, 18)] : List (Nat × Nat)), x.1 = 13 → listed.getD x.2 false = true := (by intro x hx he; simp only [List.mem_cons, List.not_mem_nil, or_false] at hx; rcases hx with rfl | rfl | rfl; all_goals first | (exact absurd he (by decide)) | assumption)
      exact wp_mw _ rfl q1 (hK _ _ (hJ.nx hls hT rfl rfl (hJ.st.step (by decide) (by decide) (by decide) (by decide) (Ex.refl _)) hord))
    · have q62 := hJ.is hT (hdep ⟨13, .data⟩ (by simp) rfl) rfl _ rfl _ rfl
      have hord : ∀ x ∈ ([(17, 16), (18, 17), (20, 18)] : List (Nat × Nat)), x.1 = 14 → listed.getD x.2 false = true := (by intro x hx he; simp only [List.mem_cons, List.not_mem_nil, or_false] at hx; rcases hx with rfl | rfl | rfl; all_goals first | (exact absurd he (by decide)) | assumption)
      rw [gd9] at q62
      clear hsz hdep hout hlat
      go_simp
      exact hK _ _ (hJ.nx hls hT rfl (by exact congrArg (Value.int .u8) (by first | omega | (unfold IntKind.wrap; simp [IntKind.bits, IntKind.signed]; omega) | (rw [IntKind.wrap_u64]; omega) | (simp [IntKind.wrap]; omega))) (hJ.st.step (by decide) (by decide) (by decide) (by decide) (Ex.refl _)) hord)
    · have q11 := hout 11 ob
      have hord : ∀ x ∈ ([(17, 16), (18, 17), (20, 18)] : List (Nat × Nat)), x.1 = 15 → listed.getD x.2 false = true := (by intro x hx he; simp only [List.mem_cons, List.not_mem_nil, or_false] at hx; rcases hx with rfl | rfl | rfl; all_goals first | (exact absurd he (by decide)) | assumption)
      exact wp_mw _ rfl q11 (hK _ _ (hJ.nx hls hT rfl rfl (hJ.st.step (by decide) (by decide) (by decide) (by decide) (Ex.refl _)) hord))
    · have q52 := hJ.is hT (hdep ⟨3, .data⟩ (by simp) rfl) rfl _ rfl _ rfl
      have q61 := hJ.is hT (hdep ⟨12, .data⟩ (by simp) rfl) rfl _ rfl _ rfl
      have q63 := hJ.is hT (hdep ⟨14, .data⟩ (by simp) rfl) rfl _ rfl _ rfl
      have q64 := hJ.is hT (hdep ⟨15, .data⟩ (by simp) rfl) rfl _ rfl _ rfl
      have hord : ∀ x ∈ ([(17, 16), (18, 17), (20, 18)] : List (Nat × Nat)), x.1 = 16 → listed.getD x.2 false = true := (by intro x hx he; simp only [List.mem_cons, List.not_mem_nil, or_false] at hx; rcases hx with rfl | rfl | rfl; all_goals first | (exact absurd he (by decide)) | assumption)
      have nt : listed.getD 17 false = false := by
        cases hc : listed.getD 17 false with
        | false => rfl
        | true => exact absurd (hJ.ord (17, 16) (by simp) hc) (by rw [hun]; decide)
      have nx : listed.getD 18 false = false := by
        cases hc : listed.getD 18 false with
        | false => rfl
        | true => exact absurd (hJ.ord (18, 17) (by simp) hc) (by rw [nt]; decide)
      have no : listed.getD 20 false = false := by
        cases hc : listed.getD 20 false with
        | false => rfl
        | true => exact absurd (hJ.ord (20, 18) (by simp) hc) (by rw [nx]; decide)
      rw [gd9] at q52
      rw [gd9] at q61
      rw [gd9] at q63
      rw [gd9] at q64
      clear hsz hdep hout hlat
      go_simp
      refine (close9_any k CW.out.kN ((got.length : Int) * 4 + n) (by omega) (by omega) now N0 (by omega) cp w2 (CN.out.ext hJ.st.1).1 (by rw [CL.out]; exact reqB_len Y.out.1 RR.out.1)).mono ?_
      rintro e w4 ⟨v, rfl, vo, x3⟩
      exact hK _ _ (hJ.nx hls hT rfl (by exact ⟨_, rfl⟩) (hJ.st.call (by decide) (by decide) (by decide) nt nx no x3 (ofSm_own (Sm.own_less vo hJ.st.1.size))) hord)
    · have dd65 := hdep ⟨16, .data⟩ (by simp) rfl
      have q65 := dd65.2 _ rfl _ rfl
      have h65 := hJ.vals 16 dd65.1
      rw [hT] at h65
      have h65 : (fun zz => ∃ v : Value, zz = .tuple #[v, .int .i64 0]) (f 16) := h65
      clear dd65
      have hl16 := (hdep ⟨16, .data⟩ (by simp) rfl).1
      have hord : ∀ x ∈ ([(17, 16), (18, 17), (20, 18)] : List (Nat × Nat)), x.1 = 17 → listed.getD x.2 false = true := (by intro x hx he; simp only [List.mem_cons, List.not_mem_nil, or_false] at hx; rcases hx with rfl | rfl | rfl; all_goals first | (exact absurd he (by decide)) | assumption)
      exact wp_mw _ rfl q65 (hK _ _ (hJ.nx hls hT rfl (by exact h65) (hJ.st.tup (by decide) (by decide) (by decide)) hord))
    · have dd48 := hdep ⟨17, .data⟩ (by simp) rfl
      have q48 := dd48.2 _ rfl _ rfl
      have h48 := hJ.vals 17 dd48.1
      rw [hT] at h48
      have h48 : (fun zz => ∃ v : Value, zz = .tuple #[v, .int .i64 0]) (f 17) := h48
      clear dd48
      have hl17 := (hdep ⟨17, .data⟩ (by simp) rfl).1
      have hord : ∀ x ∈ ([(17, 16), (18, 17), (20, 18)] : List (Nat × Nat)), x.1 = 18 → listed.getD x.2 false = true := (by intro x hx he; simp only [List.mem_cons, List.not_mem_nil, or_false] at hx; rcases hx with rfl | rfl | rfl; all_goals first | (exact absurd he (by decide)) | assumption)
      have l17 := (hdep ⟨17, .data⟩ (by simp) rfl).1
      obtain ⟨v9, e9, _, e8, _⟩ := hJ.st.2 (hJ.ord (17, 16) (by simp) l17)
      have z9 : f 17 = .tuple #[v9, .int .i64 0] := (e8 l17).trans e9
      rw [z9] at q48
      rw [gd9] at q48
      clear hsz hdep hout hlat e8 e9
      go_simp
      exact hK _ _ (hJ.nx hls hT rfl (by exact trivial) (hJ.st.ext (by decide) (by decide) (by decide) l17 z9) hord)
    · have dd48 := hdep ⟨17, .data⟩ (by simp) rfl
      have q48 := dd48.2 _ rfl _ rfl
      have h48 := hJ.vals 17 dd48.1
      rw [hT] at h48
      have h48 : (fun zz => ∃ v : Value, zz = .tuple #[v, .int .i64 0]) (f 17) := h48
      clear dd48
      have hord : ∀ x ∈ ([(17, 16), (18, 17), (20, 18)] : List (Nat × Nat)), x.1 = 19 → listed.getD x.2 false = true := (by intro x hx he; simp only [List.mem_cons, List.not_mem_nil, or_false] at hx; rcases hx with rfl | rfl | rfl; all_goals first | (exact absurd he (by decide)) | assumption)
      obtain ⟨v9, e9⟩ := h48
      rw [e9] at q48
      rw [gd9] at q48
      clear hsz hdep hout hlat e9
      go_simp
      exact hK _ _ (hJ.nx hls hT rfl rfl (hJ.st.step (by decide) (by decide) (by decide) (by decide) (Ex.refl _)) hord)
    · have dd66 := hdep ⟨18, .data⟩ (by simp) rfl
      have q66 := dd66.2 _ rfl _ rfl
      have hl18 := (hdep ⟨18, .data⟩ (by simp) rfl).1
      have hord : ∀ x ∈ ([(17, 16), (18, 17), (20, 18)] : List (Nat × Nat)), x.1 = 20 → listed.getD x.2 false = true := (by intro x hx he; simp only [List.mem_cons, List.not_mem_nil, or_false] at hx; rcases hx with rfl | rfl | rfl; all_goals first | (exact absurd he (by decide)) | assumption)
      have l18 := (hdep ⟨18, .data⟩ (by simp) rfl).1
      refine wp_asg9 _ rfl (hK _ _ ?_)
      rw [show a.eval (.tmp 66) = f 18 from q66]
      exact hJ.nx hls hT rfl (by exact trivial) (hJ.st.put (by decide) (by decide) (by decide) l18) hord
    have q67 := hJ.is hT (hdep ⟨19, .data⟩ (by simp) rfl) rfl _ rfl _ rfl
    have hord : ∀ x ∈ ([(17, 16), (18, 17), (20, 18)] : List (Nat × Nat)), x.1 = 21 → listed.getD x.2 false = true := (by intro x hx he; simp only [List.mem_cons, List.not_mem_nil, or_false] at hx; rcases hx with rfl | rfl | rfl; all_goals first | (exact absurd he (by decide)) | assumption)
    rw [gd9] at q67
    clear hsz hdep hout hlat
    go_simp
    exact hK _ _ (hJ.nx hls hT rfl (by first | rfl | exact congrArg (Value.int .i64) (by omega) | exact congrArg (Value.int .i64) (by rw [IntKind.wrap_i64]; omega) | exact congrArg Value.bool (decide_eq_false (by omega)) | exact congrArg Value.bool (decide_eq_true (by omega)) | exact congrArg (Value.int .u64) (by omega)) (hJ.st.step (by decide) (by decide) (by decide) (by decide) (Ex.refl _)) hord)
  intro listed f w2 hall hJ
  have f21 := hJ.fa hT (hall 21 (by simp)) rfl
  have hst := hJ.st
  simp only [putAll, Act.put, List.setIfInBounds_toArray, List.set_cons_zero, List.set_cons_succ, Nat.zero_add, Nat.reduceAdd]
  obtain ⟨v9, _, o9, _, _, a9⟩ := hst.2 (hall 16 (by simp))
  have a9 := a9 (hall 20 (by simp))
  have x9 := hst.1
  clear hst hS0
  rw [a9]
  obtain ⟨lp, rfl, ll, ln⟩ := own_pn o9
  have LPL := Hi ll
  have LPN := Hi ln
  clear o9 ll ln a9
  rw [f21]
  clear f21
  clear hJ hall hT
  replace BW := Hi (Ex.trans BW.out x9)
  replace Y := Hi (Y.out.ext x9)
  replace YP := Hi (YP.out.ext x9)
  replace R0 := Hi (R0.out.ext x9)
  clear x9
  have c17 := (CW.out.ext BW.out).c17
  go_wp2_with ((with_reducible refine so7 [1000 + 3, 1000 + 23, 1000 + 97] ?_ ?_); (focus rfl))
  refine at9 (by go_simp) fun K0 hK => wp_bfalse _ _ rfl B rv got rfl ((CW.out.ext BW.out).ext (Ex.alloc _ _)).row (Nat.le_trans CW.out.lo (Nat.le_of_lt ((CW.out.ext BW.out).ext (Ex.alloc _ _)).blk.lt)) w2.heap.size rfl (Bk.new rfl _ _) LF.out (fun v5 w5 r1 r2 r3 => hK _ _ ?_)
  clear hK
  have XA : Ex w2 (w2.alloc (.cells #[.bool false] 4)) := Ex.alloc _ _
  have C2 := CW.out.ext BW.out
  have CA := C2.ext XA
  have T5 : Tc C rv.ownBlock w2 w5 := (Ex.tc C _ XA).trans (grownBy_tc C r2) (Or.inl rfl)
  have B5 : Bk w5 C 106 (clC n k rv).toArray := (r2.block C CA.blk.lt (ownB_ne CA.row CA.blk (by decide))).trans CA.blk
  have R5 := Hi r1
  have L5 := Hi (r3.ex (Ex.trans BW.out XA))
  have T5 := Hi T5
  have B5 := Hi B5
  have C2 := Hi C2
  clear r1 r2 r3 XA CA c17
  go_wp2_with ((with_reducible refine so7 [1000 + 3, 1000 + 23, 1000 + 97] ?_ ?_); (focus rfl))
  refine at9 (by go_simp) fun K0 hK => st_cgot _ _ C n k rv v5 C2.out.kN rfl rfl rfl (ownB_one R5.out) B5.out (fun w6 hd ho => hK _ _ ?_)
  clear hK
  have T6 := Hi (T5.out.trans (Only.tc ho (Or.inl rfl)) (Or.inl rfl) : Tc C rv.ownBlock w2 w6)
  have K6 : Hid (CI w6 B C n k v5 (got ++ [false])) := Hi ⟨hd, ownB_only R5.out B5.out (by decide) ho, C2.out.lo, C2.out.kN, C2.out.n0, C2.out.n1, by rw [List.length_append]; have := LF.out; simp; omega⟩
  clear hd ho
  replace Y := Hi (QB.tc9 Y.out T6.out C2.out.blk C2.out.row)
  replace YP := Hi (PN.tc9 YP.out T6.out C2.out.blk C2.out.row)
  replace LPN := Hi (PN.tc9 LPN.out T6.out C2.out.blk C2.out.row)
  replace R0 := Hi (QB.tc9 R0.out T6.out C2.out.blk C2.out.row)
  have TW := Hi ((Ex.tc C _ BW.out).trans T6.out (Or.inl rfl))
  go_wp2_with fail
  have hS0 : ∀ (listed : Array Bool) (f : Nat → Value), (∀ i, listed.getD i false = false) → (fun (l : Array Bool) (_ : Nat → Value) (W : World) => (l.getD 3 false = false → Ex w6 W) ∧ (l.getD 3 false = true → ∃ W0, Ex w6 W0 ∧ Only (g + 1) W0 W ∧ QB W (g + 1) yq)) listed f w6.drew := fun listed f h0 => ⟨fun _ => ex_drewN w6 1, fun e => absurd e (by rw [h0]; decide)⟩
  obtain ⟨T, hT⟩ : ∃ T : List (Value → Prop), T = [(fun zz => zz = lp.V), (fun zz => zz = yq.V), (fun zz => zz = lp.V), (fun _ => True), (fun zz => zz = .int .i64 0)] := ⟨_, rfl⟩
  refine wp_region_gen (JS T ([(3, 0), (3, 1), (3, 2)] : List (Nat × Nat)) (fun (l : Array Bool) (_ : Nat → Value) (W : World) => (l.getD 3 false = false → Ex w6 W) ∧ (l.getD 3 false = true → ∃ W0, Ex w6 W0 ∧ Only (g + 1) W0 W ∧ QB W (g + 1) yq))) (by kernel_rfl) (by kernel_rfl) (by kernel_rfl) (fitB_spec (by kernel_rfl)) (fun listed f h => JS.start listed f h (hS0 listed f h)) ?_ ?_
  · intro i o ho
    have hi : i < 5 := (Array.getElem?_eq_some_iff.1 ho).1
    have hi' : i = 0 ∨ i = 1 ∨ i = 2 ∨ i = 3 ∨ i = 4 := by omega
    clear hi
    rcases hi' with rfl | rfl | rfl | rfl | rfl
    all_goals (simp only [List.getElem?_toArray, List.getElem?_cons_zero, List.getElem?_cons_succ, Option.some.injEq] at ho; subst ho; intro listed f a w8 hJ hsz hls hun hdep hout hlat; first | (rw [if_pos (by rfl)]; intro K hK) | skip)
    · have q12 := hout 12 ob
      have hord : ∀ x ∈ ([(3, 0), (3, 1), (3, 2)] : List (Nat × Nat)), x.1 = 0 → listed.getD x.2 false = true := (by intro x hx he; simp only [List.mem_cons, List.not_mem_nil, or_false] at hx; rcases hx with rfl | rfl | rfl; all_goals first | (exact absurd he (by decide)) | assumption)
      have nl : listed.getD 3 false = false := by
        cases hc : listed.getD 3 false with
        | false => rfl
        | true => exact absurd (hJ.ord (3, 0) (by simp) hc) (by rw [hun]; decide)
      exact wp_mw _ rfl q12 (hK _ _ (hJ.nx hls hT rfl rfl ⟨fun _ => Ex.trans (hJ.st.1 nl) (Ex.refl _), fun e => absurd e (by rw [gset (by decide), nl]; decide)⟩ hord))
    · have q9 := hout 9 ob
      have hord : ∀ x ∈ ([(3, 0), (3, 1), (3, 2)] : List (Nat × Nat)), x.1 = 1 → listed.getD x.2 false = true := (by intro x hx he; simp only [List.mem_cons, List.not_mem_nil, or_false] at hx; rcases hx with rfl | rfl | rfl; all_goals first | (exact absurd he (by decide)) | assumption)
      have nl : listed.getD 3 false = false := by
        cases hc : listed.getD 3 false with
        | false => rfl
        | true => exact absurd (hJ.ord (3, 1) (by simp) hc) (by rw [hun]; decide)
      exact ld_q (.tmp 9) i9 yq rfl q9 (Y.out.ext (hJ.st.1 nl)) (hK _ _ (hJ.nx hls hT rfl rfl ⟨fun _ => Ex.trans (hJ.st.1 nl) (Ex.refl _), fun e => absurd e (by rw [gset (by decide), nl]; decide)⟩ hord))
    · have q81 := hJ.is hT (hdep ⟨0, .data⟩ (by simp) rfl) rfl _ rfl _ rfl
      have hord : ∀ x ∈ ([(3, 0), (3, 1), (3, 2)] : List (Nat × Nat)), x.1 = 2 → listed.getD x.2 false = true := (by intro x hx he; simp only [List.mem_cons, List.not_mem_nil, or_false] at hx; rcases hx with rfl | rfl | rfl; all_goals first | (exact absurd he (by decide)) | assumption)
      have nl : listed.getD 3 false = false := by
        cases hc : listed.getD 3 false with
        | false => rfl
        | true => exact absurd (hJ.ord (3, 2) (by simp) hc) (by rw [hun]; decide)
      refine wp_asg9 _ rfl (hK _ _ ?_)
      rw [show a.eval (.tmp 81) = lp.V from q81]
      exact hJ.nx hls hT rfl rfl ⟨fun _ => Ex.trans (hJ.st.1 nl) (Ex.refl _), fun e => absurd e (by rw [gset (by decide), nl]; decide)⟩ hord
    · have q7 := hout 7 ob
      have q82 := hJ.is hT (hdep ⟨1, .data⟩ (by simp) rfl) rfl _ rfl _ rfl
      have hl0 := (hdep ⟨0, .phase⟩ (by simp) rfl).1
      have hl1 := (hdep ⟨1, .data⟩ (by simp) rfl).1
      have hl2 := (hdep ⟨2, .chain⟩ (by simp) rfl).1
      have hord : ∀ x ∈ ([(3, 0), (3, 1), (3, 2)] : List (Nat × Nat)), x.1 = 3 → listed.getD x.2 false = true := (by intro x hx he; simp only [List.mem_cons, List.not_mem_nil, or_false] at hx; rcases hx with rfl | rfl | rfl; all_goals first | (exact absurd he (by decide)) | assumption)
      exact st_q (.tmp 7) (.tmp 82) (g + 1) yq rfl q7 q82 Y.out.1 (R0.out.2.ext (hJ.st.1 hun)) (by rw [List.size_toArray, Qt.len zeroQt_ok]) (fun w9 hd ho => hK _ _ (hJ.nx hls hT rfl (by exact trivial) ⟨fun e => (by rw [set_new (by rw [hls]; decide)] at e; cases e), fun _ => ⟨w8, hJ.st.1 hun, ho, hd⟩⟩ hord))
    have hord : ∀ x ∈ ([(3, 0), (3, 1), (3, 2)] : List (Nat × Nat)), x.1 = 4 → listed.getD x.2 false = true := (by intro x hx he; simp only [List.mem_cons, List.not_mem_nil, or_false] at hx; rcases hx with rfl | rfl | rfl; all_goals first | (exact absurd he (by decide)) | assumption)
    have l3 := (hdep ⟨3, .chain⟩ (by simp) rfl).1
    clear hsz hdep hout hlat
    go_simp
    exact hK _ _ (hJ.nx hls hT rfl (by first | rfl | exact congrArg (Value.int .i64) (by omega) | exact congrArg (Value.int .i64) (by rw [IntKind.wrap_i64]; omega) | exact congrArg Value.bool (decide_eq_false (by omega)) | exact congrArg Value.bool (decide_eq_true (by omega)) | exact congrArg (Value.int .u64) (by omega)) ⟨fun e => absurd e (by rw [gset (by decide), l3]; decide), fun _ => hJ.st.2 l3⟩ hord)
  intro listed f w8 hall hJ
  have f2 := hJ.fa hT (hall 2 (by simp)) rfl
  have f4 := hJ.fa hT (hall 4 (by simp)) rfl
  have hst := hJ.st
  simp only [putAll, Act.put, List.setIfInBounds_toArray, List.set_cons_zero, List.set_cons_succ, Nat.zero_add, Nat.reduceAdd]
  obtain ⟨W0, x0, o0, d0⟩ := hst.2 (hall 3 (by simp))
  have X0 := Hi x0
  have O0 := Hi o0
  have D0 := Hi d0
  clear hst hS0 x0 o0 d0
  rw [f2, f4]
  clear f2 f4
  clear hJ hall hT
  have HR : RF = (Sm.closeL k ((got.length : Int) * 4 + n) (Sm.by8 now) (reqB RC), RC, 0) := by
    rw [HRF.out]; unfold makeF; rw [if_neg NW.out, if_pos HE.out.symm, ← HC.out]
  go_wp2_with fail
  rw [HR]
  exact bodyPost_ret (res_q3 rfl _ _ (g + 1) rfl yq D0.out) rfl ⟨⟨lp, yq, rfl, by rw [LPL.out, CL.out, YC.out], ((LPN.out.less (Nat.zero_le _)).ext X0.out).onlyT O0.out (R0.out.2.ext X0.out) (by decide), ⟨Y.out.1, (YP.out.ext X0.out).onlyT O0.out (R0.out.2.ext X0.out) (by decide)⟩, YC.out⟩, fun e => absurd rfl e, fun _ => ⟨v5, (K6.out.ext X0.out).only9 O0.out (R0.out.2.ext X0.out) (by decide) (by decide), Tc.only9 (TW.out.trans (Ex.tc C _ X0.out) (Or.inl rfl)) O0.out (by have := HG.out; omega), L5.out⟩⟩
end Go.Proofs.Ytopamplmpfndlaa.Cl
namespace Go.Proofs.Ytopamplmpfndlaa.Cl
open Go.RowKit
def RMakePost (B C : Nat) (n : Int) (k : List UInt8) (rv : Value) (got : List Bool) (R : List UInt8 × Qc × Int) (w : World) (e : Ending) (w' : World) : Prop :=
  MkTup R e w' ∧ (R.2.2 ≠ 0 → Ex w w') ∧ (R.2.2 = 0 → ∃ rv', DI w' B C n k rv' (got ++ [false]) ∧ Tc C rv.ownBlock w w' ∧ Lies w rv rv')
section
variable {o : Oper} {a : Act} {w : World} {K : Act → World → Prop} {Q : Exit → Act → World → Prop}
theorem st_rnum (x y : Operand) (C : Nat) (n m z : Int) (k : List UInt8) (rv : Value) (hk16 : k.length = 16) (ho : o.op = .store 27 x y) (ha : a.eval x = .pointer (some ⟨C, 1, none⟩)) (hy : a.eval y = .int .u64 z) (h : Bk w C 99 (rcC n m k rv).toArray)
    (hk : ∀ w', Bk w' C 99 (rcC n z k rv).toArray → Only C w w' → K (a.put o.dst undef) w') : o.wp Try.prog a w K Q := by
  refine wp_st1 x y C 1 (.int .u64 z) ho ha hy h (by unfold rcC; simp [byteCells_len, hk16]) (by kernel_rfl) rfl (fun w' b1 b2 => hk w' ?_ b2)
  have e : (rcC n m k rv).set 1 (.int .u64 z) = rcC n z k rv := by
    obtain ⟨_, _, _, _, _, _, _, _, _, _, _, b1, b2, _, _, _, rfl⟩ := len16 hk16
    rfl
  rw [← e]; exact b1
end
theorem PN.td9 {w w' : World} {B0 B C : Nat} {rv : Value} {got : List Bool} {p : Pt} {cs : Array Value} (h : PN w B0 p) (k : Tc C rv.ownBlock w w') (hD : Bk w C 99 cs) (ho : ownB w B rv got) : PN w' B0 p := by
  have hb : ∀ a, p.ad = some a → a.block < w.heap.size ∧ w'.heap[a.block]? = w.heap[a.block]? := fun a e => by
    obtain ⟨_, cu, hu⟩ := h.2 a e
    refine ⟨hu.lt, k.block _ hu.lt ?_ (ownB_ne ho hu (by decide))⟩
    intro e2
    rw [e2] at hu
    exact absurd (Bk.ty hu hD) (by decide)
  refine ⟨⟨h.1.cap, h.1.nil, fun h0 => ?_⟩, fun a e => ⟨(h.2 a e).1, (h.2 a e).2.elim fun cu hc => ⟨cu, (hb a e).2.trans hc⟩⟩⟩
  obtain ⟨a, o, e, hB, hc⟩ := h.1.read h0
  refine ⟨a, o, e, Nat.lt_of_lt_of_le hB k.size, fun i hi => ?_⟩
  rw [← hc i hi]
  simp only [World.cell?, (hb _ e).2]
theorem QB.td9 {w w' : World} {g B C : Nat} {rv : Value} {got : List Bool} {y : Qt} {cs : Array Value} (h : QB w g y) (k : Tc C rv.ownBlock w w') (hD : Bk w C 99 cs) (ho : ownB w B rv got) : QB w' g y := by
  refine ⟨h.1, k.bk h.2 ?_ (ownB_ne ho h.2 (by decide))⟩
  rintro rfl
  exact absurd (Bk.ty h.2 hD) (by decide)
theorem DI.only9 {w w' : World} {B C i : Nat} {n : Int} {k : List UInt8} {rv : Value} {got : List Bool} {t : TypeId} {cs : Array Value} (h : DI w B C n k rv got) (o : Only i w w') (hb : Bk w i t cs) (h1 : t ≠ 99) (h2 : t ≠ 4) : DI w' B C n k rv got :=
  ⟨o.bk h.blk (by rintro rfl; exact h1 (Bk.ty hb h.blk)), ownB_only h.row hb h2 o, h.lo, h.kN, h.n0, h.n1, h.few⟩
def LR (ir ic it ix io : Nat) (base : World) (T L : List UInt8) (l : Array Bool) (f : Nat → Value) (W : World) : Prop :=
  LK ic it ix io base L l f W ∧ (l.getD ir false = true → ownU W base.heap.size (f ir) T)
section
variable {ir ic it ix io : Nat} {base : World} {T L : List UInt8} {l : Array Bool} {f : Nat → Value} {W W' : World}
theorem LR.start (h0 : ∀ i, l.getD i false = false) (x : Ex base W) : LR ir ic it ix io base T L l f W := ⟨LK.start h0 x, fun e => absurd e (by rw [h0]; decide)⟩
theorem LR.keep (h : LR ir ic it ix io base T L l f W) {i : Nat} {v : Value} (hr : i ≠ ir) (x : Ex W W') (k : LK ic it ix io base L (l.setIfInBounds i true) (upd f i v) W') : LR ir ic it ix io base T L (l.setIfInBounds i true) (upd f i v) W' :=
  ⟨k, fun e => by rw [gset hr] at e; rw [upd_ne _ _ (Ne.symm hr)]; exact ownU_ex x (h.2 e)⟩
theorem LR.row (h : LR ir ic it ix io base T L l f W) (hc : ir ≠ ic) (ht : ir ≠ it) (hx : ir ≠ ix) (ho : ir ≠ io) (x : Ex W W') {v : Value} (hv : ownU W' base.heap.size v T) : LR ir ic it ix io base T L (l.setIfInBounds ir true) (upd f ir v) W' :=
  ⟨h.1.step hc ht hx ho x, fun _ => by rw [upd_same]; exact hv⟩
end
end Go.Proofs.Ytopamplmpfndlaa.Cl
namespace Go.Proofs.Ytopamplmpfndlaa.Cl
open Go.RowKit
def okP (L : List UInt8) : Bool := (!(r8 L).2 && decide ((r8 L).1 = L.length)) && Rcright (repP L)
def zeroRc : Rc := ⟨0, [0, 0, 0, 0], 0, 0, [], 0, 0⟩
def toRep (L : List UInt8) : Rc × Int := if okP L = true then (repP L, 0) else (zeroRc, 12)
def RepEPost (c : Rc) (E : Int) (w : World) (e : Ending) (w' : World) : Prop := ∃ y : Rt, e = .returned (.tuple #[y.V, .int .i64 E]) ∧ (y.Ok ∧ PN w' 0 y.sec) ∧ y.ct = c ∧ Ex w w'
theorem built_zrep : Try.prog.built 29 [] = some zeroRt.C.toArray := by kernel_rfl
theorem torep_any (p : Pt) (w : World) (hp : p.In w w.heap.size) (hbig : p.l.length ≤ 9223372036854775807) : Calls Try.prog 64 #[p.V] w (RepEPost (toRep p.l).1 (toRep p.l).2 w) := by
  obtain ⟨m, hm⟩ : ∃ m, m = p.l.length := ⟨_, rfl⟩
  have hpv : p.V = .slice p.ad m p.cap := by unfold Pt.V; rw [hm]
  have R0 : Hid (RdI ((w.alloc (.cells zeroRt.C.toArray 29)).alloc (.cells #[.slice p.ad m p.cap, .int .i64 0, .bool false] 158)) (w.heap.size + 1) p (0, false)) := Hi ⟨by rw [← hpv]; exact Bk.new (by simp) _ _, Nat.zero_le _, (hp.keep (show Below w.heap.size w ((w.alloc (.cells zeroRt.C.toArray 29)).alloc (.cells #[.slice p.ad m p.cap, .int .i64 0, .bool false] 158)) from Ex.trans (Ex.alloc w _) (Ex.alloc _ _))).more (Nat.le_succ _), hbig⟩
  have Y0 : Hid (RB ((w.alloc (.cells zeroRt.C.toArray 29)).alloc (.cells #[.slice p.ad m p.cap, .int .i64 0, .bool false] 158)) w.heap.size zeroRt) := Hi ⟨zeroRt_ok, (Bk.new rfl _ _).more _⟩
  have BW : Hid (Ex w ((w.alloc (.cells zeroRt.C.toArray 29)).alloc (.cells #[.slice p.ad m p.cap, .int .i64 0, .bool false] 158))) := Hi (Ex.trans (Ex.alloc w _) (Ex.alloc _ _))
  obtain ⟨b1, hb1⟩ : ∃ b, b = (!(r8 p.l).2 && decide ((r8 p.l).1 = p.l.length)) := ⟨_, rfl⟩
  obtain ⟨b2, hb2⟩ : ∃ b, b = Rcright (repP p.l) := ⟨_, rfl⟩
  have HT : Hid (toRep p.l = if (b1 && b2) = true then (repP p.l, 0) else (zeroRc, 12)) := Hi (by rw [hb1, hb2]; rfl)
  have H1 := Hi hb1
  have H2 := Hi hb2
  rw [hpv]
  clear hpv hm hp hbig hb1 hb2
  go_enter Try.func64, Try.ntmps64
  go_wp2_with ((with_reducible refine stop_big ?_ ?_); (focus rfl))
  change Calls _ _ _ ((w.alloc (.cells zeroRt.C.toArray 29)).alloc (.cells #[.slice p.ad m p.cap, .int .i64 0, .bool false] 158)) _
  generalize ((w.alloc (.cells zeroRt.C.toArray 29)).alloc (.cells #[.slice p.ad m p.cap, .int .i64 0, .bool false] 158)) = z0 at R0 Y0 BW ⊢
  obtain ⟨g, hg⟩ : ∃ g, g = w.heap.size := ⟨_, rfl⟩
  have HG := Hi hg
  rw [← hg] at R0 Y0 ⊢
  clear hg
  have SZ := Hi R0.out.blk.lt
  refine (reply_any (g + 1) p z0 R0.out).mono ?_
  rintro e w1 ⟨y, rfl, yok, yc, yn, h1, m1⟩
  replace BW := Hi (Md.ex m1 BW.out (by have := HG.out; omega))
  replace Y0 := Hi (m1.rb Y0.out (by omega))
  replace R0 := Hi h1
  have YN := Hi yn
  have YC := Hi yc
  have YO := Hi yok
  clear yok yc yn h1 m1
  go_wp2_with ((with_reducible refine stop_big ?_ ?_); (focus rfl))
  have SW : Hid (g + 1 < w1.heap.size) := Hi R0.out.blk.lt
  obtain ⟨i, hi⟩ : ∃ i, i = w1.heap.size := ⟨_, rfl⟩
  refine at9 (by go_simp) fun K0 hK => st_r _ _ w1.heap.size y rfl rfl rfl YO.out (Bk.new rfl _ _) (by rfl) (fun w3 hd ho => hK _ _ ?_)
  clear hK
  have x3 : Ex w1 w3 := ho.below w1.heap.size (Nat.le_refl _) w1 (Ex.alloc w1 _)
  replace BW := Hi (Ex.trans BW.out x3)
  replace Y0 := Hi (Y0.out.ext x3)
  replace R0 := Hi (R0.out.ext x3)
  replace YN := Hi (YN.out.ext x3)
  have YI := Hi hd
  rw [← hi] at YI ⊢
  have HI := Hi hi
  clear hi hd ho x3
  go_wp2_with ((with_reducible refine stop_big ?_ ?_); (focus rfl))
  refine (whole_any (g + 1) p _ w3 R0.out).mono ?_
  rintro e w4 ⟨rfl, x4⟩
  replace BW := Hi (Ex.trans BW.out x4)
  replace Y0 := Hi (Y0.out.ext x4)
  replace YN := Hi (YN.out.ext x4)
  replace YI := Hi (YI.out.ext x4)
  rw [← H1.out]
  clear x4 R0
  cases b1
  · skip
    go_wp2_with ((with_reducible refine stop_big ?_ ?_); (focus rfl))
    (first | ((with_reducible refine at8 ?_ ?_); (focus (go_simp; done)); go_wp2_with ((with_reducible refine stop_big ?_ ?_); (focus rfl))) | skip)
    go_wp2_with ((with_reducible refine stop_big ?_ ?_); (focus rfl))
    refine at9 (by go_simp) fun K0 hK => st_r _ _ g zeroRt rfl rfl (by first | rfl | skip) zeroRt_ok Y0.out.2 (by rw [List.size_toArray, Rt.len Y0.out.1]) (fun w5 hd ho => hK _ _ ?_)
    clear hK
    replace BW := Hi (ho.below w.heap.size (by have := HG.out; omega) _ BW.out)
    have YD := Hi hd
    clear hd ho
    go_wp2_with fail
    exact bodyPost_ret (res_r2 rfl _ _ g rfl zeroRt YD.out) rfl ⟨zeroRt, by rw [HT.out]; rfl, ⟨zeroRt_ok, nilB_pn _ _⟩, by rw [HT.out]; rfl, BW.out⟩
  skip
  go_wp2_with ((with_reducible refine stop_big ?_ ?_); (focus rfl))
  refine at9 (by go_simp) fun K0 hK => ld_r _ i y rfl rfl YI.out (hK _ _ ?_)
  clear hK
  go_wp2_with ((with_reducible refine stop_big ?_ ?_); (focus rfl))
  refine (rpright_any y _ ⟨YO.out, YN.out.1⟩).mono ?_
  rintro e w6 ⟨rfl, x6⟩
  replace BW := Hi (Ex.trans BW.out x6)
  replace Y0 := Hi (Y0.out.ext x6)
  replace YN := Hi (YN.out.ext x6)
  replace YI := Hi (YI.out.ext x6)
  rw [YC.out, ← H2.out]
  clear x6
  cases b2
  · skip
    go_wp2_with ((with_reducible refine stop_big ?_ ?_); (focus rfl))
    refine at9 (by go_simp) fun K0 hK => st_r _ _ g zeroRt rfl rfl (by first | rfl | skip) zeroRt_ok Y0.out.2 (by rw [List.size_toArray, Rt.len Y0.out.1]) (fun w5 hd ho => hK _ _ ?_)
    clear hK
    replace BW := Hi (ho.below w.heap.size (by have := HG.out; omega) _ BW.out)
    have YD := Hi hd
    clear hd ho
    go_wp2_with fail
    exact bodyPost_ret (res_r2 rfl _ _ g rfl zeroRt YD.out) rfl ⟨zeroRt, by rw [HT.out]; rfl, ⟨zeroRt_ok, nilB_pn _ _⟩, by rw [HT.out]; rfl, BW.out⟩
  skip
  go_wp2_with ((with_reducible refine stop_big ?_ ?_); (focus rfl))
  refine at9 (by go_simp) fun K0 hK => ld_r _ i y rfl rfl YI.out (hK _ _ ?_)
  clear hK
  go_wp2_with ((with_reducible refine stop_big ?_ ?_); (focus rfl))
  refine at9 (by go_simp) fun K0 hK => st_r _ _ g y rfl rfl rfl YO.out Y0.out.2 (by rw [List.size_toArray, Rt.len Y0.out.1]) (fun w5 hd ho => hK _ _ ?_)
  clear hK
  replace YN := Hi (YN.out.onlyT ho Y0.out.2 (by decide))
  replace BW := Hi (ho.below w.heap.size (by have := HG.out; omega) _ BW.out)
  have YD := Hi hd
  clear hd ho
  go_wp2_with fail
  exact bodyPost_ret (res_r2 rfl _ _ g rfl y YD.out) rfl ⟨y, by rw [HT.out]; rfl, ⟨YO.out, YN.out.less (Nat.zero_le _)⟩, by rw [HT.out, YC.out]; rfl, BW.out⟩
end Go.Proofs.Ytopamplmpfndlaa.Cl
