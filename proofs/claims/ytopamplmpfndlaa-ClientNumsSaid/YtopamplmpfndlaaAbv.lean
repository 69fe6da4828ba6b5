/- Df -/
import Derived.Test.YtopamplmpfndlaaAbt
set_option maxRecDepth 100000
set_option maxHeartbeats 16000000
namespace Go.Proofs.Ytopamplmpfndlaa.Cl
open Go.RowKit
def P6 : ByteArray := ⟨#[49, 50, 51, 52, 53, 54]⟩
def XW (l : List UInt8) : Wt := ⟨2, l, P6, nilB, 0, ⟨#[]⟩⟩
theorem XW_i {l : List UInt8} (hl : l.length = 4) (w : World) : WI w (XW l) := ⟨⟨by show (-9223372036854775808 : Int) ≤ 2; decide, by show (2 : Int) ≤ 9223372036854775807; decide, hl, by show (-9223372036854775808 : Int) ≤ 0; decide, by show (0 : Int) ≤ 9223372036854775807; decide, by show P6.size ≤ _; decide, by show (ByteArray.mk #[]).size ≤ _; decide, by show nilB.l.length ≤ _; decide⟩, nilB_in _ _⟩
theorem built_rec {l : List UInt8} (hl : l.length = 4) : Try.prog.built 31 [(0, .int .i64 2), (1, digV l), (2, .string ⟨#[49, 50, 51, 52, 53, 54]⟩)] = some (XW l).C.toArray := by
  obtain ⟨a, b, c, d, rfl⟩ := len4 hl
  kernel_rfl
def QR (l : List UInt8) (n num : Int) (k : List UInt8) : Qc := ⟨2, l, Sm.pinL P6 l, [], 0, z16, keyL n num k, n, num⟩
theorem make_rec {n num now : Int} {k l : List UInt8} (n0 : 0 ≤ n) (n1 : n < 4) (hm : num ≤ 1099511627776) (h0 : 0 ≤ now) (h8 : now < 8) : makeF n num k now (XW l).ct = (Sm.closeL k (num * 4 + n) (Sm.by8 now) (reqB (QR l n num k)), QR l n num k, 0) := by
  unfold makeF
  rw [if_neg (by omega), reqF_rec (W := (XW l).ct) rfl k22 n0 n1 hm]
  rfl
def cut64 (x : Ak) : Pt := ⟨x.sec.ad, x.sec.cap, x.sec.l.take 64⟩
def RK (x : Ak) (l : List UInt8) (j : Int) : Rt := ⟨0, l, 0, j, cut64 x, 2, j⟩
theorem RK_ok {x : Ak} {l : List UInt8} {j : Int} (hl : l.length = 4) (h0 : 0 ≤ j) (h1 : j < 8) : (RK x l j).Ok := ⟨by show (-9223372036854775808 : Int) ≤ 0; decide, by show (0 : Int) ≤ 9223372036854775807; decide, hl, by show (0 : Int) ≤ 0; decide, by show (0 : Int) < 18446744073709551616; decide, by show -9223372036854775808 ≤ j; omega, by show j ≤ 9223372036854775807; omega, by show (-9223372036854775808 : Int) ≤ 2; decide, by show (2 : Int) ≤ 9223372036854775807; decide, h0, by show j < 18446744073709551616; omega⟩
theorem built_rk {x : Ak} {l : List UInt8} {j : Int} (hl : l.length = 4) : Try.prog.built 29 [(1, digV l), (3, .int .i64 j), (5, .int .i64 2), (6, .int .u64 j), (4, (cut64 x).V)] = some (RK x l j).C.toArray := by
  obtain ⟨a, b, c, d, rfl⟩ := len4 hl
  kernel_rfl
theorem cut64_len (x : Ak) : (cut64 x).l.length ≤ 64 := by
  show (x.sec.l.take 64).length ≤ 64
  rw [List.length_take]; omega
theorem RK_right {x : Ak} {l : List UInt8} {j : Int} (h0 : 0 ≤ j) (h1 : j < 8) : Rcright (RK x l j).ct = true :=
  (Rcright_iff _).2 ⟨by show (0 : Int) ≤ 0; decide, by show (0 : Int) ≤ 255; decide, by show (0 : Int) ≤ 1099511627776; decide, h0, by show j ≤ 32; omega, ⟨by show (0 : Int) ≤ 2; decide, by show (2 : Int) < 4; decide, by show j ≤ 1099511627776; omega⟩, cut64_len x⟩
theorem repB_len {c : Rc} (hid : c.id.length = 4) (hs : c.sec.length ≤ 64) : (repB c).length ≤ 8176 := by
  unfold repB
  have hl : ∀ n : Int, (Sm.numL n).length = 8 := fun _ => rfl
  simp only [List.length_append, List.length_cons, List.length_nil, hid, hl]
  omega
theorem waits_all (j : Nat) : waits (List.replicate j true) = 0 := by
  unfold waits
  rw [List.countP_eq_zero]
  intro b hb
  rw [List.eq_of_mem_replicate hb]; decide
theorem set_last (j : Nat) (b : Bool) : (List.replicate j true ++ [b]).set j true = List.replicate (j + 1) true := by
  rw [List.set_append_right _ _ (by rw [List.length_replicate]; exact Nat.le_refl _), List.length_replicate, Nat.sub_self, List.replicate_succ']
  rfl
theorem keys22_any (k : List UInt8) (hk : k.length = 16) (x : Ak) (n : Int) (w : World) (hx : AI w x) (hn : -9223372036854775808 ≤ n ∧ n ≤ 9223372036854775807) : Calls Try.prog 6 #[digV k, x.V, .int .i64 n] w fun e w' => e = .returned (.bool true) ∧ Ex w w' := by
  obtain ⟨ds, hds⟩ : ∃ ds, ds = (Lib.byteCells k).toArray := ⟨_, rfl⟩
  obtain ⟨cs, has⟩ : ∃ ds, ds = x.C.toArray := ⟨_, rfl⟩
  have D0 : Hid (Bk ((w.alloc (.cells ds 36)).alloc (.cells cs 33)) w.heap.size 36 (Lib.byteCells k).toArray) := Hi (by rw [← hds]; exact (Bk.new rfl _ _).more _)
  have A0 : Hid (AB ((w.alloc (.cells ds 36)).alloc (.cells cs 33)) (w.heap.size + 1) x) := Hi (by unfold AB; rw [← has]; exact Bk.new (by simp) _ _)
  have BW : Hid (Ex w ((w.alloc (.cells ds 36)).alloc (.cells cs 33))) := Hi (Ex.trans (Ex.alloc _ _) (Ex.alloc _ _))
  have HK := Hi hk
  have HX := Hi hx
  have HN := Hi hn
  rw [show (Calls Try.prog 6 #[digV k, x.V, .int .i64 n] w) = (Calls Try.prog 6 #[.agg ds, .agg cs, .int .i64 n] w) by rw [hds, has]; rfl]
  clear hds has hk hx hn
  go_enter Try.func6, Try.ntmps6
  go_wp2_with ((with_reducible refine so7 [36] ?_ ?_); (focus rfl))
  (with_reducible refine ⟨?_⟩)
  change wpList _ _ _ _ _ ((w.alloc (.cells ds 36)).alloc (.cells cs 33))
  generalize ((w.alloc (.cells ds 36)).alloc (.cells cs 33)) = wz at *
  obtain ⟨g, hg⟩ : ∃ i, i = w.heap.size := ⟨_, rfl⟩
  rw [← hg] at D0 A0 ⊢
  clear hg
  (with_reducible refine at_any ?_ ?_); (focus go_simp); refine fun K0 hK => ld_dgb _ g k rfl rfl HK.out D0.out (hK _ _ ?_)
  clear hK
  go_wp2_with ((with_reducible refine so7 [1000 + 4] ?_ ?_); (focus rfl))
  refine (new_any 2 k HK.out wz).mono ?_
  rintro e w1 ⟨x1, ⟨h, _⟩ | ⟨_, C, rfl, ci⟩⟩
  · exact absurd ⟨by decide, by decide⟩ h
  have S0 : Hid (CS wz w1 C 2 k (.slice none 0 0) []) := Hi ⟨x1, ci⟩
  clear ci x1
  go_wp2_with ((with_reducible refine so7 [1000 + 4] ?_ ?_); (focus rfl))
  refine (within_any n 1 5 HN.out (by decide) (by decide) (by decide) w1).mono ?_
  rintro e w2 ⟨mi, rfl, lo, hi, rfl⟩
  obtain ⟨N, hN⟩ : ∃ N : Nat, mi = (N : Int) := ⟨mi.toNat, by omega⟩
  subst hN
  have N5 : N ≤ 5 := by omega
  have N1 : 1 ≤ N := by omega
  clear lo hi
  go_wp2_with fail
  go_loopw [10] (fun i wq => ∃ (j : Nat) (rv : Value), j ≤ N ∧ i = .int .i64 j ∧ Hid (CS wz wq C 2 k rv (List.replicate j true))) (fun i _ => N - (intOf i).toNat)
  case atStart => exact ⟨0, _, by omega, rfl, S0⟩
  clear S0
  obtain ⟨j, rv, hj, rfl, S⟩ := hrel
  by_cases hlt : j < N
  rotate_left
  · obtain rfl : j = N := by omega
    go_wp2_with ((with_reducible refine so7 [1000 + 4] ?_ ?_); (focus rfl))
    refine (asked_any wz.heap.size C 2 k rv _ _ S.out.c).mono ?_
    rintro e wc ⟨rfl, rfl⟩
    rw [List.length_replicate]
    go_wp2_with ((with_reducible refine so7 [1000 + 4] ?_ ?_); (focus rfl))
    refine (known22_any _).mono ?_
    rintro e wd ⟨rfl, x5⟩
    go_wp2_with fail
    go_ret
    exact ⟨rfl, BW.out.trans (S.out.x.trans x5)⟩
  skip
  have q0 : (j : Int) < (N : Int) := by omega
  have q1 : (0 : Int) ≤ (j : Int) := by omega
  have q2 : (j : Int) < 8 := by omega
  have c5 := (A0.out.ext S.out.x).at.2.2.1
  go_wp2_with ((with_reducible refine so7 [1000 + 4] ?_ ?_); (focus rfl))
  refine (kid9_any x.id HX.out.id _).mono ?_
  rintro e w3 ⟨l, rfl, ln, x3⟩
  replace S := Hi (S.out.ext x3)
  have LN := Hi ln
  clear x3 ln c5
  go_wp2_with ((with_reducible refine so7 [1000 + 4] ?_ ?_); (focus rfl))
  refine at9 (by go_simp) fun K0 hK => wp_build _ _ rfl _ (built_rec LN.out) (hK _ _ ?_)
  clear hK
  go_wp2_with ((with_reducible refine so7 [1000 + 4] ?_ ?_); (focus rfl))
  have hlen : (List.replicate j true).length = j := List.length_replicate
  refine (make_any wz.heap.size C 2 k rv (List.replicate j true) j (XW l) w3 S.out.c (by rw [hlen]; omega) (XW_i LN.out _)).mono ?_
  rintro e w4 ⟨⟨r, y, rfl, rl, rn, ⟨yo, yn⟩, yc⟩, _, hok⟩
  rw [hlen, make_rec (by decide) (by decide) (by omega) q1 q2] at rl yc hok ⊢
  obtain ⟨rv1, ci, tc, _⟩ := hok rfl
  replace S := Hi (S.out.tc tc ci)
  have YO := Hi yo
  have YI : Hid (y.id = l) := Hi (congrArg Qc.id yc)
  have YK : Hid (y.key = keyL 2 j k) := Hi (congrArg Qc.key yc)
  have YCl : Hid (y.client = 2) := Hi (congrArg Qc.client yc)
  have YNm : Hid (y.num = j) := Hi (congrArg Qc.num yc)
  clear rl rn yo yn yc hok ci tc hlen
  go_wp2_with ((with_reducible refine so7 [1000 + 4] ?_ ?_); (focus rfl))
  obtain ⟨i1, hi1⟩ : ∃ i, i = w4.heap.size := ⟨_, rfl⟩
  refine at9 (by go_simp) fun K0 hK => st_q _ _ w4.heap.size y rfl rfl rfl YO.out (Bk.new rfl _ _) (by rfl) (fun w5 hd ho => hK _ _ ?_)
  clear hK
  have x3 : Ex w4 w5 := ho.below w4.heap.size (Nat.le_refl _) w4 (Ex.alloc w4 _)
  replace S := Hi (S.out.ext x3)
  have Y := Hi hd
  rw [← hi1] at Y ⊢
  clear hi1 hd ho x3
  have d1 := Y.out.cells.2.2.2.1
  have d2 := Y.out.cells.2.2.2.2
  rw [YCl.out] at d1
  rw [YNm.out] at d2
  go_wp2_with fail
  clear d1 d2
  have hS0 : ∀ (listed : Array Bool) (f : Nat → Value), (∀ i, listed.getD i false = false) → (fun (listed : Array Bool) (f : Nat → Value) (W : World) => (listed.getD 10 false = false → Ex w5 W ∧ (listed.getD 9 false = true → ∃ i, f 9 = .pointer (some ⟨i, 0, none⟩) ∧ w5.heap.size ≤ i ∧ Bk W i 29 zeroRt.C.toArray)) ∧ (listed.getD 10 false = true → ∃ i, f 9 = .pointer (some ⟨i, 0, none⟩) ∧ w5.heap.size ≤ i ∧ (fun W i => RB W i (RK x l j)) W i ∧ Ex w5 W)) listed f w5.drew := fun listed f h0 => ⟨fun _ => ⟨ex_drewN w5 1, fun e => absurd e (by rw [h0]; decide)⟩, fun e => absurd e (by rw [h0]; decide)⟩
  obtain ⟨T, hT⟩ : ∃ T : List (Value → Prop), T = [(fun zz => zz = .pointer (some ⟨i1, 1, none⟩)), (fun zz => zz = digV l), (fun zz => zz = .int .i64 (j : Int)), (fun zz => zz = .pointer (some ⟨i1, 56, none⟩)), (fun zz => zz = .int .u64 (j : Int)), (fun zz => zz = .pointer (some ⟨g + 1, 9, none⟩)), (fun zz => zz = x.sec.V), (fun zz => zz = (cut64 x).V), (fun zz => zz = (RK x l j).V), (fun _ => True), (fun _ => True)] := ⟨_, rfl⟩
  refine wp_region_gen (JS T ([(10, 0), (10, 1), (10, 2), (10, 3), (10, 4), (10, 5), (10, 6), (10, 7), (10, 8), (10, 9)] : List (Nat × Nat)) (fun (listed : Array Bool) (f : Nat → Value) (W : World) => (listed.getD 10 false = false → Ex w5 W ∧ (listed.getD 9 false = true → ∃ i, f 9 = .pointer (some ⟨i, 0, none⟩) ∧ w5.heap.size ≤ i ∧ Bk W i 29 zeroRt.C.toArray)) ∧ (listed.getD 10 false = true → ∃ i, f 9 = .pointer (some ⟨i, 0, none⟩) ∧ w5.heap.size ≤ i ∧ (fun W i => RB W i (RK x l j)) W i ∧ Ex w5 W))) (by kernel_rfl) (by kernel_rfl) (by kernel_rfl) (fitB_spec (by kernel_rfl)) (fun listed f h => JS.start listed f h (hS0 listed f h)) ?_ ?_
  · intro i o ho
    have hi : i < 11 := (Array.getElem?_eq_some_iff.1 ho).1
    have hi' : i = 0 ∨ i = 1 ∨ i = 2 ∨ i = 3 ∨ i = 4 ∨ i = 5 ∨ i = 6 ∨ i = 7 ∨ i = 8 ∨ i = 9 ∨ i = 10 := by omega
    clear hi
    rcases hi' with rfl | rfl | rfl | rfl | rfl | rfl | rfl | rfl | rfl | rfl | rfl
    all_goals (simp only [List.getElem?_toArray, List.getElem?_cons_zero, List.getElem?_cons_succ, Option.some.injEq] at ho; subst ho; intro listed f a w2 hJ hsz hls hun hdep hout hlat; first | (rw [if_pos (by rfl)]; intro K hK) | skip)
    · have q12 := hout 12 ob
      have hord : ∀ x ∈ ([(10, 0), (10, 1), (10, 2), (10, 3), (10, 4), (10, 5), (10, 6), (10, 7), (10, 8), (10, 9)] : List (Nat × Nat)), x.1 = 0 → listed.getD x.2 false = true := (by intro x hx he; simp only [List.mem_cons, List.not_mem_nil, or_false] at hx; rcases hx with rfl | rfl | rfl | rfl | rfl | rfl | rfl | rfl | rfl | rfl; all_goals first | (exact absurd he (by decide)) | assumption)
      have nl : listed.getD 10 false = false := by
        cases hc : listed.getD 10 false with
        | false => rfl
        | true => exact absurd (hJ.ord (10, 0) (by simp) hc) (by rw [hun]; decide)
      rw [gd9] at q12
      clear hsz hdep hout hlat
      go_simp
      exact hK _ _ (hJ.nx hls hT rfl (by first | rfl | exact congrArg (Value.int .i64) (by omega) | exact congrArg (Value.int .i64) (by rw [IntKind.wrap_i64]; omega) | exact congrArg Value.bool (decide_eq_false (by omega)) | exact congrArg Value.bool (decide_eq_true (by omega)) | exact congrArg (Value.int .u64) (by omega)) ⟨fun _ => ⟨Ex.trans (hJ.st.1 nl).1 (Ex.refl _), fun e => by rw [gset (by decide)] at e; obtain ⟨i9, a9, b9, c9⟩ := (hJ.st.1 nl).2 e; exact ⟨i9, by rw [upd_ne _ _ (by decide)]; exact a9, b9, c9.ext (Ex.refl _)⟩⟩, fun e => absurd e (by rw [gset (by decide), nl]; decide)⟩ hord)
    · have q63 := hJ.is hT (hdep ⟨0, .data⟩ (by simp) rfl) rfl _ rfl _ rfl
      have hord : ∀ x ∈ ([(10, 0), (10, 1), (10, 2), (10, 3), (10, 4), (10, 5), (10, 6), (10, 7), (10, 8), (10, 9)] : List (Nat × Nat)), x.1 = 1 → listed.getD x.2 false = true := (by intro x hx he; simp only [List.mem_cons, List.not_mem_nil, or_false] at hx; rcases hx with rfl | rfl | rfl | rfl | rfl | rfl | rfl | rfl | rfl | rfl; all_goals first | (exact absurd he (by decide)) | assumption)
      have nl : listed.getD 10 false = false := by
        cases hc : listed.getD 10 false with
        | false => rfl
        | true => exact absurd (hJ.ord (10, 1) (by simp) hc) (by rw [hun]; decide)
      exact ld_qid (.tmp 63) i1 y rfl q63 (Y.out.ext (hJ.st.1 nl).1) (hK _ _ (hJ.nx hls hT rfl (by exact congrArg digV YI.out) ⟨fun _ => ⟨Ex.trans (hJ.st.1 nl).1 (Ex.refl _), fun e => by rw [gset (by decide)] at e; obtain ⟨i9, a9, b9, c9⟩ := (hJ.st.1 nl).2 e; exact ⟨i9, by rw [upd_ne _ _ (by decide)]; exact a9, b9, c9.ext (Ex.refl _)⟩⟩, fun e => absurd e (by rw [gset (by decide), nl]; decide)⟩ hord))
    · have q10 := hout 10 ob
      have hord : ∀ x ∈ ([(10, 0), (10, 1), (10, 2), (10, 3), (10, 4), (10, 5), (10, 6), (10, 7), (10, 8), (10, 9)] : List (Nat × Nat)), x.1 = 2 → listed.getD x.2 false = true := (by intro x hx he; simp only [List.mem_cons, List.not_mem_nil, or_false] at hx; rcases hx with rfl | rfl | rfl | rfl | rfl | rfl | rfl | rfl | rfl | rfl; all_goals first | (exact absurd he (by decide)) | assumption)
      have nl : listed.getD 10 false = false := by
        cases hc : listed.getD 10 false with
        | false => rfl
        | true => exact absurd (hJ.ord (10, 2) (by simp) hc) (by rw [hun]; decide)
      exact wp_mw _ rfl q10 (hK _ _ (hJ.nx hls hT rfl rfl ⟨fun _ => ⟨Ex.trans (hJ.st.1 nl).1 (Ex.refl _), fun e => by rw [gset (by decide)] at e; obtain ⟨i9, a9, b9, c9⟩ := (hJ.st.1 nl).2 e; exact ⟨i9, by rw [upd_ne _ _ (by decide)]; exact a9, b9, c9.ext (Ex.refl _)⟩⟩, fun e => absurd e (by rw [gset (by decide), nl]; decide)⟩ hord))
    · have q12 := hout 12 ob
      have hord : ∀ x ∈ ([(10, 0), (10, 1), (10, 2), (10, 3), (10, 4), (10, 5), (10, 6), (10, 7), (10, 8), (10, 9)] : List (Nat × Nat)), x.1 = 3 → listed.getD x.2 false = true := (by intro x hx he; simp only [List.mem_cons, List.not_mem_nil, or_false] at hx; rcases hx with rfl | rfl | rfl | rfl | rfl | rfl | rfl | rfl | rfl | rfl; all_goals first | (exact absurd he (by decide)) | assumption)
      have nl : listed.getD 10 false = false := by
        cases hc : listed.getD 10 false with
        | false => rfl
        | true => exact absurd (hJ.ord (10, 3) (by simp) hc) (by rw [hun]; decide)
      rw [gd9] at q12
      clear hsz hdep hout hlat
      go_simp
      exact hK _ _ (hJ.nx hls hT rfl (by first | rfl | exact congrArg (Value.int .i64) (by omega) | exact congrArg (Value.int .i64) (by rw [IntKind.wrap_i64]; omega) | exact congrArg Value.bool (decide_eq_false (by omega)) | exact congrArg Value.bool (decide_eq_true (by omega)) | exact congrArg (Value.int .u64) (by omega)) ⟨fun _ => ⟨Ex.trans (hJ.st.1 nl).1 (Ex.refl _), fun e => by rw [gset (by decide)] at e; obtain ⟨i9, a9, b9, c9⟩ := (hJ.st.1 nl).2 e; exact ⟨i9, by rw [upd_ne _ _ (by decide)]; exact a9, b9, c9.ext (Ex.refl _)⟩⟩, fun e => absurd e (by rw [gset (by decide), nl]; decide)⟩ hord)
    · have q66 := hJ.is hT (hdep ⟨3, .data⟩ (by simp) rfl) rfl _ rfl _ rfl
      have hord : ∀ x ∈ ([(10, 0), (10, 1), (10, 2), (10, 3), (10, 4), (10, 5), (10, 6), (10, 7), (10, 8), (10, 9)] : List (Nat × Nat)), x.1 = 4 → listed.getD x.2 false = true := (by intro x hx he; simp only [List.mem_cons, List.not_mem_nil, or_false] at hx; rcases hx with rfl | rfl | rfl | rfl | rfl | rfl | rfl | rfl | rfl | rfl; all_goals first | (exact absurd he (by decide)) | assumption)
      have nl : listed.getD 10 false = false := by
        cases hc : listed.getD 10 false with
        | false => rfl
        | true => exact absurd (hJ.ord (10, 4) (by simp) hc) (by rw [hun]; decide)
      rw [gd9] at q66
      have c6 := (Y.out.ext (hJ.st.1 nl).1).cells.2.2.2.2
      rw [YNm.out] at c6
      have HS9 := Hi hJ
      have HN9 := Hi nl
      clear hsz hdep hout hlat
      go_simp
      exact hK _ _ (hJ.nx hls hT rfl rfl ⟨fun _ => ⟨Ex.trans (hJ.st.1 nl).1 (Ex.refl _), fun e => by rw [gset (by decide)] at e; obtain ⟨i9, a9, b9, c9⟩ := (hJ.st.1 nl).2 e; exact ⟨i9, by rw [upd_ne _ _ (by decide)]; exact a9, b9, c9.ext (Ex.refl _)⟩⟩, fun e => absurd e (by rw [gset (by decide), nl]; decide)⟩ hord)
    · have q4 := hout 4 ob
      have hord : ∀ x ∈ ([(10, 0), (10, 1), (10, 2), (10, 3), (10, 4), (10, 5), (10, 6), (10, 7), (10, 8), (10, 9)] : List (Nat × Nat)), x.1 = 5 → listed.getD x.2 false = true := (by intro x hx he; simp only [List.mem_cons, List.not_mem_nil, or_false] at hx; rcases hx with rfl | rfl | rfl | rfl | rfl | rfl | rfl | rfl | rfl | rfl; all_goals first | (exact absurd he (by decide)) | assumption)
      have nl : listed.getD 10 false = false := by
        cases hc : listed.getD 10 false with
        | false => rfl
        | true => exact absurd (hJ.ord (10, 5) (by simp) hc) (by rw [hun]; decide)
      rw [gd9] at q4
      clear hsz hdep hout hlat
      go_simp
      exact hK _ _ (hJ.nx hls hT rfl (by first | rfl | exact congrArg (Value.int .i64) (by omega) | exact congrArg (Value.int .i64) (by rw [IntKind.wrap_i64]; omega) | exact congrArg Value.bool (decide_eq_false (by omega)) | exact congrArg Value.bool (decide_eq_true (by omega)) | exact congrArg (Value.int .u64) (by omega)) ⟨fun _ => ⟨Ex.trans (hJ.st.1 nl).1 (Ex.refl _), fun e => by rw [gset (by decide)] at e; obtain ⟨i9, a9, b9, c9⟩ := (hJ.st.1 nl).2 e; exact ⟨i9, by rw [upd_ne _ _ (by decide)]; exact a9, b9, c9.ext (Ex.refl _)⟩⟩, fun e => absurd e (by rw [gset (by decide), nl]; decide)⟩ hord)
    · have q68 := hJ.is hT (hdep ⟨5, .data⟩ (by simp) rfl) rfl _ rfl _ rfl
      have hord : ∀ x ∈ ([(10, 0), (10, 1), (10, 2), (10, 3), (10, 4), (10, 5), (10, 6), (10, 7), (10, 8), (10, 9)] : List (Nat × Nat)), x.1 = 6 → listed.getD x.2 false = true := (by intro x hx he; simp only [List.mem_cons, List.not_mem_nil, or_false] at hx; rcases hx with rfl | rfl | rfl | rfl | rfl | rfl | rfl | rfl | rfl | rfl; all_goals first | (exact absurd he (by decide)) | assumption)
      have nl : listed.getD 10 false = false := by
        cases hc : listed.getD 10 false with
        | false => rfl
        | true => exact absurd (hJ.ord (10, 6) (by simp) hc) (by rw [hun]; decide)
      rw [gd9] at q68
      have c6 := (A0.out.ext (S.out.x.trans (hJ.st.1 nl).1)).at.2.2.2.2.2.2
      rw [show x.sec.V = .slice x.sec.ad x.sec.l.length x.sec.cap from rfl] at c6
      have HF := Hi (hK (x.sec.V) w2 (hJ.nx hls hT rfl rfl ⟨fun _ => ⟨Ex.trans (hJ.st.1 nl).1 (Ex.refl _), fun e => by rw [gset (by decide)] at e; obtain ⟨i9, a9, b9, c9⟩ := (hJ.st.1 nl).2 e; exact ⟨i9, by rw [upd_ne _ _ (by decide)]; exact a9, b9, c9.ext (Ex.refl _)⟩⟩, fun e => absurd e (by rw [gset (by decide), nl]; decide)⟩ hord))
      clear hsz hdep hout hlat hJ hK nl
      go_simp
      exact HF.out
    · have q69 := hJ.is hT (hdep ⟨6, .data⟩ (by simp) rfl) rfl _ rfl _ rfl
      have hord : ∀ x ∈ ([(10, 0), (10, 1), (10, 2), (10, 3), (10, 4), (10, 5), (10, 6), (10, 7), (10, 8), (10, 9)] : List (Nat × Nat)), x.1 = 7 → listed.getD x.2 false = true := (by intro x hx he; simp only [List.mem_cons, List.not_mem_nil, or_false] at hx; rcases hx with rfl | rfl | rfl | rfl | rfl | rfl | rfl | rfl | rfl | rfl; all_goals first | (exact absurd he (by decide)) | assumption)
      have nl : listed.getD 10 false = false := by
        cases hc : listed.getD 10 false with
        | false => rfl
        | true => exact absurd (hJ.ord (10, 7) (by simp) hc) (by rw [hun]; decide)
      rw [gd9] at q69
      have SI := Hi (HX.out.sec.ext (BW.out.trans (S.out.x.trans (hJ.st.1 nl).1)))
      have HS9 := Hi hJ
      have HN9 := Hi nl
      clear hsz hdep hout hlat
      go_simp
      refine (cut_any x.sec 64 (by decide) (by decide) (Nat.le_trans HX.out.secN (by decide)) w2 SI.out).mono ?_
      rintro e w3 ⟨rfl, rfl⟩
      exact hK _ _ (hJ.nx hls hT rfl rfl ⟨fun _ => ⟨Ex.trans (hJ.st.1 nl).1 (Ex.refl _), fun e => by rw [gset (by decide)] at e; obtain ⟨i9, a9, b9, c9⟩ := (hJ.st.1 nl).2 e; exact ⟨i9, by rw [upd_ne _ _ (by decide)]; exact a9, b9, c9.ext (Ex.refl _)⟩⟩, fun e => absurd e (by rw [gset (by decide), nl]; decide)⟩ hord)
    · have q64 := hJ.is hT (hdep ⟨1, .data⟩ (by simp) rfl) rfl _ rfl _ rfl
      have q65 := hJ.is hT (hdep ⟨2, .data⟩ (by simp) rfl) rfl _ rfl _ rfl
      have q67 := hJ.is hT (hdep ⟨4, .data⟩ (by simp) rfl) rfl _ rfl _ rfl
      have q70 := hJ.is hT (hdep ⟨7, .data⟩ (by simp) rfl) rfl _ rfl _ rfl
      have hord : ∀ x ∈ ([(10, 0), (10, 1), (10, 2), (10, 3), (10, 4), (10, 5), (10, 6), (10, 7), (10, 8), (10, 9)] : List (Nat × Nat)), x.1 = 8 → listed.getD x.2 false = true := (by intro x hx he; simp only [List.mem_cons, List.not_mem_nil, or_false] at hx; rcases hx with rfl | rfl | rfl | rfl | rfl | rfl | rfl | rfl | rfl | rfl; all_goals first | (exact absurd he (by decide)) | assumption)
      have nl : listed.getD 10 false = false := by
        cases hc : listed.getD 10 false with
        | false => rfl
        | true => exact absurd (hJ.ord (10, 8) (by simp) hc) (by rw [hun]; decide)
      refine wp_build _ _ rfl (RK x l j).C.toArray ?_ (hK _ _ (hJ.nx hls hT rfl rfl ⟨fun _ => ⟨Ex.trans (hJ.st.1 nl).1 (Ex.refl _), fun e => by rw [gset (by decide)] at e; obtain ⟨i9, a9, b9, c9⟩ := (hJ.st.1 nl).2 e; exact ⟨i9, by rw [upd_ne _ _ (by decide)]; exact a9, b9, c9.ext (Ex.refl _)⟩⟩, fun e => absurd e (by rw [gset (by decide), nl]; decide)⟩ hord))
      show Try.prog.built 29 [(1, a.tmps.getD 64 undef), (3, a.tmps.getD 65 undef), (5, _), (6, a.tmps.getD 67 undef), (4, a.tmps.getD 70 undef)] = _
      rw [q64, q65, q67, q70]
      exact built_rk LN.out
    · have hord : ∀ x ∈ ([(10, 0), (10, 1), (10, 2), (10, 3), (10, 4), (10, 5), (10, 6), (10, 7), (10, 8), (10, 9)] : List (Nat × Nat)), x.1 = 9 → listed.getD x.2 false = true := (by intro x hx he; simp only [List.mem_cons, List.not_mem_nil, or_false] at hx; rcases hx with rfl | rfl | rfl | rfl | rfl | rfl | rfl | rfl | rfl | rfl; all_goals first | (exact absurd he (by decide)) | assumption)
      have nl : listed.getD 10 false = false := by
        cases hc : listed.getD 10 false with
        | false => rfl
        | true => exact absurd (hJ.ord (10, 9) (by simp) hc) (by rw [hun]; decide)
      clear hsz hdep hout hlat
      go_simp
      exact hK _ _ (hJ.nx hls hT rfl (by exact trivial) ⟨fun _ => ⟨Ex.trans (hJ.st.1 nl).1 (Ex.alloc _ _), fun _ => ⟨w2.heap.size, by rw [upd_same], (hJ.st.1 nl).1.size, Bk.new rfl _ _⟩⟩, fun e => absurd e (by rw [gset (by decide), nl]; decide)⟩ hord)
    have dd14 := hdep ⟨9, .data⟩ (by simp) rfl
    have q14 := dd14.2 _ rfl _ rfl
    have q71 := hJ.is hT (hdep ⟨8, .data⟩ (by simp) rfl) rfl _ rfl _ rfl
    have hl0 := (hdep ⟨0, .phase⟩ (by simp) rfl).1
    have hl1 := (hdep ⟨1, .phase⟩ (by simp) rfl).1
    have hl2 := (hdep ⟨2, .phase⟩ (by simp) rfl).1
    have hl3 := (hdep ⟨3, .phase⟩ (by simp) rfl).1
    have hl4 := (hdep ⟨4, .phase⟩ (by simp) rfl).1
    have hl5 := (hdep ⟨5, .phase⟩ (by simp) rfl).1
    have hl6 := (hdep ⟨6, .phase⟩ (by simp) rfl).1
    have hl7 := (hdep ⟨7, .chain⟩ (by simp) rfl).1
    have hl8 := (hdep ⟨8, .data⟩ (by simp) rfl).1
    have hl9 := (hdep ⟨9, .data⟩ (by simp) rfl).1
    have hord : ∀ x ∈ ([(10, 0), (10, 1), (10, 2), (10, 3), (10, 4), (10, 5), (10, 6), (10, 7), (10, 8), (10, 9)] : List (Nat × Nat)), x.1 = 10 → listed.getD x.2 false = true := (by intro x hx he; simp only [List.mem_cons, List.not_mem_nil, or_false] at hx; rcases hx with rfl | rfl | rfl | rfl | rfl | rfl | rfl | rfl | rfl | rfl; all_goals first | (exact absurd he (by decide)) | assumption)
    obtain ⟨i9, a9, b9, c9⟩ := (hJ.st.1 hun).2 (hdep ⟨9, .data⟩ (by simp) rfl).1
    rw [a9] at q14
    refine st_r (.tmp 14) (.tmp 71) i9 (RK x l j) rfl q14 q71 (RK_ok LN.out q1 q2) c9 (by rw [List.size_toArray, Rt.len zeroRt_ok]) (fun w9 hd ho => ?_)
    exact hK _ _ (hJ.nx hls hT rfl (by exact trivial) ⟨fun e => (by rw [set_new (by rw [hls]; decide)] at e; cases e), fun _ => ⟨i9, by rw [upd_ne _ _ (by decide)]; exact a9, b9, hd, (ho.below w5.heap.size b9 _ (hJ.st.1 hun).1)⟩⟩ hord)
  intro listed f w2 hall hJ
  have hst := hJ.st
  simp only [putAll, Act.put, List.setIfInBounds_toArray, List.set_cons_zero, List.set_cons_succ, Nat.zero_add, Nat.reduceAdd]
  obtain ⟨i9, a9, b9, c9, x9⟩ := hst.2 (hall 10 (by simp))
  clear hst hS0
  rw [a9]
  have P9 := Hi c9
  have LO := Hi b9
  clear c9 a9 b9
  clear hJ hall hT
  generalize f 0 = y0
  generalize f 1 = y1
  generalize f 2 = y2
  generalize f 3 = y3
  generalize f 4 = y4
  generalize f 5 = y5
  generalize f 6 = y6
  generalize f 7 = y7
  generalize f 8 = y8
  replace S := Hi (S.out.ext x9)
  replace Y := Hi (Y.out.ext x9)
  have RR := P9
  clear P9 x9 LO
  go_wp2_with fail
  skip
  generalize w2 = wb at *
  have hS0 : ∀ (listed : Array Bool) (f : Nat → Value), (∀ i, listed.getD i false = false) → (LR 5 6 7 8 10 wb (repB (RK x l j).ct) (Sm.closeL (keyL 2 j k) j (Sm.by8 130) (repB (RK x l j).ct))) listed f wb.drew := fun listed f h0 => LR.start h0 (ex_drewN wb 1)
  obtain ⟨T, hT⟩ : ∃ T : List (Value → Prop), T = [(fun zz => zz = .pointer (some ⟨i1, 39, none⟩)), (fun zz => zz = digV (keyL 2 j k)), (fun zz => zz = .pointer (some ⟨i1, 56, none⟩)), (fun zz => zz = .int .u64 (j : Int)), (fun zz => zz = (RK x l j).V), (fun _ => True), (fun zz => ∃ v : Value, zz = .tuple #[v, .int .i64 0]), (fun zz => ∃ v : Value, zz = .tuple #[v, .int .i64 0]), (fun _ => True), (fun zz => zz = .int .i64 0), (fun _ => True), (fun zz => zz = .int .i64 0)] := ⟨_, rfl⟩
  refine wp_region_gen (JS T ([(7, 6), (8, 7), (10, 8)] : List (Nat × Nat)) (LR 5 6 7 8 10 wb (repB (RK x l j).ct) (Sm.closeL (keyL 2 j k) j (Sm.by8 130) (repB (RK x l j).ct)))) (by kernel_rfl) (by kernel_rfl) (by kernel_rfl) (fitB_spec (by kernel_rfl)) (fun listed f h => JS.start listed f h (hS0 listed f h)) ?_ ?_
  · intro i o ho
    have hi : i < 12 := (Array.getElem?_eq_some_iff.1 ho).1
    have hi' : i = 0 ∨ i = 1 ∨ i = 2 ∨ i = 3 ∨ i = 4 ∨ i = 5 ∨ i = 6 ∨ i = 7 ∨ i = 8 ∨ i = 9 ∨ i = 10 ∨ i = 11 := by omega
    clear hi
    rcases hi' with rfl | rfl | rfl | rfl | rfl | rfl | rfl | rfl | rfl | rfl | rfl | rfl
    all_goals (simp only [List.getElem?_toArray, List.getElem?_cons_zero, List.getElem?_cons_succ, Option.some.injEq] at ho; subst ho; intro listed f a w2 hJ hsz hls hun hdep hout hlat; first | (rw [if_pos (by rfl)]; intro K hK) | skip)
    · have q12 := hout 12 ob
      have hord : ∀ x ∈ ([(7, 6), (8, 7), (10, 8)] : List (Nat × Nat)), x.1 = 0 → listed.getD x.2 false = true := (by intro x hx he; simp only [List.mem_cons, List.not_mem_nil, or_false] at hx; rcases hx with rfl | rfl | rfl; all_goals first | (exact absurd he (by decide)) | assumption)
      rw [gd9] at q12
      clear hsz hdep hout hlat
      go_simp
      exact hK _ _ (hJ.nx hls hT rfl (by first | rfl | exact congrArg (Value.int .i64) (by omega) | exact congrArg (Value.int .i64) (by rw [IntKind.wrap_i64]; omega) | exact congrArg Value.bool (decide_eq_false (by omega)) | exact congrArg Value.bool (decide_eq_true (by omega)) | exact congrArg (Value.int .u64) (by omega)) (hJ.st.keep (by decide) (Ex.refl _) (hJ.st.1.step (by decide) (by decide) (by decide) (by decide) (Ex.refl _))) hord)
    · have q73 := hJ.is hT (hdep ⟨0, .data⟩ (by simp) rfl) rfl _ rfl _ rfl
      have hord : ∀ x ∈ ([(7, 6), (8, 7), (10, 8)] : List (Nat × Nat)), x.1 = 1 → listed.getD x.2 false = true := (by intro x hx he; simp only [List.mem_cons, List.not_mem_nil, or_false] at hx; rcases hx with rfl | rfl | rfl; all_goals first | (exact absurd he (by decide)) | assumption)
      exact ld_qkey (.tmp 73) i1 y rfl q73 (Y.out.ext hJ.st.1.1) (hK _ _ (hJ.nx hls hT rfl (by exact congrArg digV YK.out) (hJ.st.keep (by decide) (Ex.refl _) (hJ.st.1.step (by decide) (by decide) (by decide) (by decide) (Ex.refl _))) hord))
    · have q12 := hout 12 ob
      have hord : ∀ x ∈ ([(7, 6), (8, 7), (10, 8)] : List (Nat × Nat)), x.1 = 2 → listed.getD x.2 false = true := (by intro x hx he; simp only [List.mem_cons, List.not_mem_nil, or_false] at hx; rcases hx with rfl | rfl | rfl; all_goals first | (exact absurd he (by decide)) | assumption)
      rw [gd9] at q12
      clear hsz hdep hout hlat
      go_simp
      exact hK _ _ (hJ.nx hls hT rfl (by first | rfl | exact congrArg (Value.int .i64) (by omega) | exact congrArg (Value.int .i64) (by rw [IntKind.wrap_i64]; omega) | exact congrArg Value.bool (decide_eq_false (by omega)) | exact congrArg Value.bool (decide_eq_true (by omega)) | exact congrArg (Value.int .u64) (by omega)) (hJ.st.keep (by decide) (Ex.refl _) (hJ.st.1.step (by decide) (by decide) (by decide) (by decide) (Ex.refl _))) hord)
    · have q75 := hJ.is hT (hdep ⟨2, .data⟩ (by simp) rfl) rfl _ rfl _ rfl
      have hord : ∀ x ∈ ([(7, 6), (8, 7), (10, 8)] : List (Nat × Nat)), x.1 = 3 → listed.getD x.2 false = true := (by intro x hx he; simp only [List.mem_cons, List.not_mem_nil, or_false] at hx; rcases hx with rfl | rfl | rfl; all_goals first | (exact absurd he (by decide)) | assumption)
      rw [gd9] at q75
      have c6 := (Y.out.ext hJ.st.1.1).cells.2.2.2.2
      rw [YNm.out] at c6
      clear hsz hdep hout hlat
      go_simp
      exact hK _ _ (hJ.nx hls hT rfl rfl (hJ.st.keep (by decide) (Ex.refl _) (hJ.st.1.step (by decide) (by decide) (by decide) (by decide) (Ex.refl _))) hord)
    · have q14 := hout 14 ob
      have hord : ∀ x ∈ ([(7, 6), (8, 7), (10, 8)] : List (Nat × Nat)), x.1 = 4 → listed.getD x.2 false = true := (by intro x hx he; simp only [List.mem_cons, List.not_mem_nil, or_false] at hx; rcases hx with rfl | rfl | rfl; all_goals first | (exact absurd he (by decide)) | assumption)
      exact ld_r (.tmp 14) i9 (RK x l j) rfl q14 (RR.out.ext hJ.st.1.1) (hK _ _ (hJ.nx hls hT rfl rfl (hJ.st.keep (by decide) (Ex.refl _) (hJ.st.1.step (by decide) (by decide) (by decide) (by decide) (Ex.refl _))) hord))
    · have q77 := hJ.is hT (hdep ⟨4, .data⟩ (by simp) rfl) rfl _ rfl _ rfl
      have hord : ∀ x ∈ ([(7, 6), (8, 7), (10, 8)] : List (Nat × Nat)), x.1 = 5 → listed.getD x.2 false = true := (by intro x hx he; simp only [List.mem_cons, List.not_mem_nil, or_false] at hx; rcases hx with rfl | rfl | rfl; all_goals first | (exact absurd he (by decide)) | assumption)
      rw [gd9] at q77
      clear hsz hdep hout hlat
      go_simp
      refine (rrep_any (RK x l j) w2 ⟨RK_ok LN.out q1 q2, bcut_in (HX.out.sec.ext (BW.out.trans (S.out.x.trans hJ.st.1.1))) 64⟩ (Nat.le_trans (cut64_len x) (by decide))).mono ?_
      rintro e w4 ⟨v, rfl, vo, x3⟩
      exact hK _ _ (hJ.nx hls hT rfl (by exact trivial) (hJ.st.row (by decide) (by decide) (by decide) (by decide) x3 (ownU_less vo hJ.st.1.1.size)) hord)
    · have q74 := hJ.is hT (hdep ⟨1, .data⟩ (by simp) rfl) rfl _ rfl _ rfl
      have q76 := hJ.is hT (hdep ⟨3, .data⟩ (by simp) rfl) rfl _ rfl _ rfl
      have dd78 := hdep ⟨5, .data⟩ (by simp) rfl
      have q78 := dd78.2 _ rfl _ rfl
      have hord : ∀ x ∈ ([(7, 6), (8, 7), (10, 8)] : List (Nat × Nat)), x.1 = 6 → listed.getD x.2 false = true := (by intro x hx he; simp only [List.mem_cons, List.not_mem_nil, or_false] at hx; rcases hx with rfl | rfl | rfl; all_goals first | (exact absurd he (by decide)) | assumption)
      have nt : listed.getD 7 false = false := by
        cases hc : listed.getD 7 false with
        | false => rfl
        | true => exact absurd (hJ.ord (7, 6) (by simp) hc) (by rw [hun]; decide)
      have nx : listed.getD 8 false = false := by
        cases hc : listed.getD 8 false with
        | false => rfl
        | true => exact absurd (hJ.ord (8, 7) (by simp) hc) (by rw [nt]; decide)
      have no : listed.getD 10 false = false := by
        cases hc : listed.getD 10 false with
        | false => rfl
        | true => exact absurd (hJ.ord (10, 8) (by simp) hc) (by rw [nx]; decide)
      have l18 := (hdep ⟨5, .data⟩ (by simp) rfl).1
      obtain ⟨p9, e9, n9, i9', _⟩ := own_pt (hJ.st.2 l18)
      rw [e9] at q78
      rw [gd9] at q74
      rw [gd9] at q76
      rw [gd9] at q78
      clear hsz hdep hout hlat
      go_simp
      refine (rclose9_any (keyL 2 j k) (keyL_len _ _ _) j (by omega) (by omega) 130 (by decide) (by decide) p9 w2 i9' (by rw [n9]; exact repB_len LN.out (cut64_len x))).mono ?_
      rintro e w4 ⟨v, rfl, vo, x3⟩
      rw [n9] at vo
      exact hK _ _ (hJ.nx hls hT rfl (by exact ⟨_, rfl⟩) (hJ.st.keep (by decide) x3 (hJ.st.1.call (by decide) (by decide) (by decide) nt nx no x3 (ofSm_own (Sm.own_less vo hJ.st.1.1.size)))) hord)
    · have dd79 := hdep ⟨6, .data⟩ (by simp) rfl
      have q79 := dd79.2 _ rfl _ rfl
      have h79 := hJ.vals 6 dd79.1
      rw [hT] at h79
      have h79 : (fun zz => ∃ v : Value, zz = .tuple #[v, .int .i64 0]) (f 6) := h79
      clear dd79
      have hl6 := (hdep ⟨6, .data⟩ (by simp) rfl).1
      have hord : ∀ x ∈ ([(7, 6), (8, 7), (10, 8)] : List (Nat × Nat)), x.1 = 7 → listed.getD x.2 false = true := (by intro x hx he; simp only [List.mem_cons, List.not_mem_nil, or_false] at hx; rcases hx with rfl | rfl | rfl; all_goals first | (exact absurd he (by decide)) | assumption)
      exact wp_mw _ rfl q79 (hK _ _ (hJ.nx hls hT rfl (by exact h79) (hJ.st.keep (by decide) (Ex.refl _) (hJ.st.1.tup (by decide) (by decide) (by decide))) hord))
    · have dd72 := hdep ⟨7, .data⟩ (by simp) rfl
      have q72 := dd72.2 _ rfl _ rfl
      have h72 := hJ.vals 7 dd72.1
      rw [hT] at h72
      have h72 : (fun zz => ∃ v : Value, zz = .tuple #[v, .int .i64 0]) (f 7) := h72
      clear dd72
      have hl7 := (hdep ⟨7, .data⟩ (by simp) rfl).1
      have hord : ∀ x ∈ ([(7, 6), (8, 7), (10, 8)] : List (Nat × Nat)), x.1 = 8 → listed.getD x.2 false = true := (by intro x hx he; simp only [List.mem_cons, List.not_mem_nil, or_false] at hx; rcases hx with rfl | rfl | rfl; all_goals first | (exact absurd he (by decide)) | assumption)
      have l17 := (hdep ⟨7, .data⟩ (by simp) rfl).1
      obtain ⟨v9, e9, _, e8, _⟩ := hJ.st.1.2 (hJ.ord (7, 6) (by simp) l17)
      have z9 : f 7 = .tuple #[v9, .int .i64 0] := (e8 l17).trans e9
      rw [z9] at q72
      rw [gd9] at q72
      clear hsz hdep hout hlat e8 e9
      go_simp
      exact hK _ _ (hJ.nx hls hT rfl (by exact trivial) (hJ.st.keep (by decide) (Ex.refl _) (hJ.st.1.ext (by decide) (by decide) (by decide) l17 z9)) hord)
    · have dd72 := hdep ⟨7, .data⟩ (by simp) rfl
      have q72 := dd72.2 _ rfl _ rfl
      have h72 := hJ.vals 7 dd72.1
      rw [hT] at h72
      have h72 : (fun zz => ∃ v : Value, zz = .tuple #[v, .int .i64 0]) (f 7) := h72
      clear dd72
      have hord : ∀ x ∈ ([(7, 6), (8, 7), (10, 8)] : List (Nat × Nat)), x.1 = 9 → listed.getD x.2 false = true := (by intro x hx he; simp only [List.mem_cons, List.not_mem_nil, or_false] at hx; rcases hx with rfl | rfl | rfl; all_goals first | (exact absurd he (by decide)) | assumption)
      obtain ⟨v9, e9⟩ := h72
      rw [e9] at q72
      rw [gd9] at q72
      clear hsz hdep hout hlat e9
      go_simp
      exact hK _ _ (hJ.nx hls hT rfl rfl (hJ.st.keep (by decide) (Ex.refl _) (hJ.st.1.step (by decide) (by decide) (by decide) (by decide) (Ex.refl _))) hord)
    · have dd80 := hdep ⟨8, .data⟩ (by simp) rfl
      have q80 := dd80.2 _ rfl _ rfl
      have hl8 := (hdep ⟨8, .data⟩ (by simp) rfl).1
      have hord : ∀ x ∈ ([(7, 6), (8, 7), (10, 8)] : List (Nat × Nat)), x.1 = 10 → listed.getD x.2 false = true := (by intro x hx he; simp only [List.mem_cons, List.not_mem_nil, or_false] at hx; rcases hx with rfl | rfl | rfl; all_goals first | (exact absurd he (by decide)) | assumption)
      have l18 := (hdep ⟨8, .data⟩ (by simp) rfl).1
      refine wp_asg9 _ rfl (hK _ _ ?_)
      rw [show a.eval (.tmp 80) = f 8 from q80]
      exact hJ.nx hls hT rfl (by exact trivial) (hJ.st.keep (by decide) (Ex.refl _) (hJ.st.1.put (by decide) (by decide) (by decide) l18)) hord
    have q81 := hJ.is hT (hdep ⟨9, .data⟩ (by simp) rfl) rfl _ rfl _ rfl
    have hord : ∀ x ∈ ([(7, 6), (8, 7), (10, 8)] : List (Nat × Nat)), x.1 = 11 → listed.getD x.2 false = true := (by intro x hx he; simp only [List.mem_cons, List.not_mem_nil, or_false] at hx; rcases hx with rfl | rfl | rfl; all_goals first | (exact absurd he (by decide)) | assumption)
    rw [gd9] at q81
    clear hsz hdep hout hlat
    go_simp
    exact hK _ _ (hJ.nx hls hT rfl (by first | rfl | exact congrArg (Value.int .i64) (by omega) | exact congrArg (Value.int .i64) (by rw [IntKind.wrap_i64]; omega) | exact congrArg Value.bool (decide_eq_false (by omega)) | exact congrArg Value.bool (decide_eq_true (by omega)) | exact congrArg (Value.int .u64) (by omega)) (hJ.st.keep (by decide) (Ex.refl _) (hJ.st.1.step (by decide) (by decide) (by decide) (by decide) (Ex.refl _))) hord)
  intro listed f w7 hall hJ
  have f11 := hJ.fa hT (hall 11 (by simp)) rfl
  have hst := hJ.st
  simp only [putAll, Act.put, List.setIfInBounds_toArray, List.set_cons_zero, List.set_cons_succ, Nat.zero_add, Nat.reduceAdd]
  obtain ⟨v9, _, o9, _, _, a9⟩ := hst.1.2 (hall 6 (by simp))
  have a9 := a9 (hall 10 (by simp))
  have x9 := hst.1.1
  clear hst hS0
  rw [a9]
  obtain ⟨lp, rfl, ll, lnn⟩ := own_pn o9
  have LPL := Hi ll
  have LPN := Hi (lnn.less (Nat.zero_le _))
  clear o9 ll lnn a9
  rw [f11]
  clear f11
  clear hJ hall hT
  generalize f 0 = y0
  generalize f 1 = y1
  generalize f 2 = y2
  generalize f 3 = y3
  generalize f 4 = y4
  generalize f 5 = y5
  generalize f 6 = y6
  generalize f 7 = y7
  generalize f 8 = y8
  generalize f 9 = y9
  replace S := Hi (S.out.ext x9)
  replace RR := Hi (RR.out.ext x9)
  clear x9 Y
  go_wp2_with fail
  have OA := Hi (openF_ans (n := 2) (m := j) (N := j + 1) (k := k) (c := (RK x l j).ct) (by decide) (by decide) (by omega) (by omega) LN.out (by show (0 : Int) ≤ 0; decide) (RK_right q1 q2) rfl rfl)
  have OL : Hid (lp.l.length ≤ 9223372036854775807) := Hi (by rw [LPL.out, Sm.closeL_len]; have h := repB_len (c := (RK x l j).ct) LN.out (cut64_len x); omega)
  go_loopw [17] (fun i wq => ∃ (t : Nat) (b : Bool), t ≤ 2 ∧ i = .int .i64 t ∧ (0 < t → b = true) ∧ Hid (CS wz wq C 2 k rv1 (List.replicate j true ++ [b])) ∧ Hid (RB wq i9 (RK x l j)) ∧ Hid (PN wq 0 lp)) (fun i _ => 2 - (intOf i).toNat)
  case atStart => exact ⟨0, false, by omega, rfl, fun h => absurd h (Nat.lt_irrefl 0), S, RR, LPN⟩
  clear S RR LPN
  obtain ⟨t, b, ht, rfl, hb, S, RR, LPN⟩ := hrel
  have HB := Hi hb
  clear hb
  by_cases ht2 : t < 2
  rotate_left
  · obtain rfl : t = 2 := by omega
    obtain rfl : b = true := HB.out (by omega)
    go_wp2_with fail
    go_roundw
    case rel => exact ⟨j + 1, rv1, by omega, by go_num, Hi (by rw [List.replicate_succ']; exact S.out)⟩
    case measure => simp [intOf]; omega
  have q3 : (t : Int) < 2 := by omega
  go_wp2_with ((with_reducible refine so7 [1000 + 4] ?_ ?_); (focus rfl))
  have hlen : (List.replicate j true ++ [b]).length = j + 1 := by simp
  refine (open9_any wz.heap.size C 2 k rv1 _ lp _ S.out.c LPN.out.1 OL.out).mono ?_
  rintro e w8 ⟨⟨ya, rfl, ⟨yo, yn⟩, yc⟩, _, hok⟩
  rw [hlen, LPL.out] at hok yc ⊢
  rw [show (Sm.by8 130) = Sm.by8 (128 + 2) from rfl, OA.out.1] at yc ⊢
  rw [show (Sm.by8 130) = Sm.by8 (128 + 2) from rfl, OA.out.1, OA.out.2, set_last] at hok
  obtain ⟨ci, tc⟩ := hok rfl
  replace RR := Hi (RB.tc9 RR.out tc S.out.c.blk S.out.c.row)
  replace LPN := Hi (PN.tc9 LPN.out tc S.out.c.blk S.out.c.row)
  replace S := Hi (S.out.tc tc ci)
  have YA := Hi (show RI w8 ya from ⟨yo, yn.1⟩)
  have YAC := Hi yc
  clear hok ci tc yo yn yc hlen
  go_wp2_with ((with_reducible refine so7 [1000 + 4] ?_ ?_); (focus rfl))
  obtain ⟨i3, hi3⟩ : ∃ i, i = w8.heap.size := ⟨_, rfl⟩
  refine at9 (by go_simp) fun K0 hK => st_r _ _ w8.heap.size ya rfl rfl rfl YA.out.ok (Bk.new rfl _ _) (by rfl) (fun w9 hd ho => hK _ _ ?_)
  clear hK
  have x3 : Ex w8 w9 := ho.below w8.heap.size (Nat.le_refl _) w8 (Ex.alloc w8 _)
  replace S := Hi (S.out.ext x3)
  replace RR := Hi (RR.out.ext x3)
  replace LPN := Hi (LPN.out.ext x3)
  replace YA := Hi (YA.out.ext x3)
  have YB := Hi hd
  rw [← hi3] at YB ⊢
  clear hi3 hd ho x3
  go_wp2_with ((with_reducible refine so7 [1000 + 4] ?_ ?_); (focus rfl))
  refine at9 (by go_simp) fun K0 hK => ld_r _ i9 (RK x l j) rfl rfl RR.out (hK _ _ ?_)
  clear hK
  go_wp2_with ((with_reducible refine so7 [1000 + 4] ?_ ?_); (focus rfl))
  refine at9 (by go_simp) fun K0 hK => ld_r _ i3 ya rfl rfl YB.out (hK _ _ ?_)
  clear hK
  go_wp2_with ((with_reducible refine so7 [1000 + 4] ?_ ?_); (focus rfl))
  refine (reps_any (RK x l j) ya YAC.out.symm w9 ⟨RK_ok LN.out q1 q2, bcut_in (HX.out.sec.ext (BW.out.trans S.out.x)) 64⟩ YA.out).mono ?_
  rintro e wa ⟨rfl, x5⟩
  replace S := Hi (S.out.ext x5)
  replace RR := Hi (RR.out.ext x5)
  replace LPN := Hi (LPN.out.ext x5)
  clear x5
  go_wp2_with ((with_reducible refine so7 [1000 + 4] ?_ ?_); (focus rfl))
  refine (waits_any wz.heap.size C 2 k rv1 _ wa S.out.c).mono ?_
  rintro e wc ⟨rfl, rfl⟩
  rw [waits_all]
  go_wp2_with fail
  go_roundw
  case rel => exact ⟨t + 1, true, by omega, by go_num, fun _ => rfl, Hi (by have h := S.out; rw [List.replicate_succ'] at h; exact h), RR, LPN⟩
  case measure => simp [intOf]; omega
end Go.Proofs.Ytopamplmpfndlaa.Cl
