/- walks: the law RosterBack -/
import Derived.Test.YtgoiidpcdifojaaRoM
namespace Go.Proofs.Ytgoiidpcdifojaa
open Go.RowKit
theorem right_ver {u : Int} {l : List Int} (h0 : 1 ≤ u) (h1 : u ≤ 1099511627776) : rightB u l = rightB 1 l := by
  unfold rightB
  rw [decide_eq_true h0, decide_eq_true h1, decide_eq_true (show (1 : Int) ≤ 1 by decide), decide_eq_true (show (1 : Int) ≤ 1099511627776 by decide)]
theorem withB_ver {u : Int} {l : List Int} {x : Int} (h0 : 1 ≤ u) (h1 : u ≤ 1000) : withB u l x = withB 1 l x := by
  unfold withB withOk
  rw [right_ver h0 (by omega), right_ver (u := u + 1) (by omega) (by omega), right_ver (u := 1 + 1) (by omega) (by omega)]
theorem withL_ver {u : Int} {l : List Int} {x : Int} (h0 : 1 ≤ u) (h1 : u ≤ 1000) : withL u l x = withL 1 l x := by
  unfold withL withOk nextL
  rw [right_ver h0 (by omega), right_ver (u := u + 1) (by omega) (by omega), right_ver (u := 1 + 1) (by omega) (by omega)]
theorem withV_yes {u : Int} {l : List Int} {x : Int} (h : withB u l x = true) : withV u l x = u + 1 := by
  unfold withB at h
  rw [Bool.and_eq_true] at h
  unfold withV nextV
  rw [if_pos h.1, if_pos h.2]
theorem lessB_ver {u : Int} {l : List Int} {x : Int} (h0 : 1 ≤ u) (h1 : u ≤ 1000) : lessB u l x = lessB 1 l x := by
  unfold lessB hasB
  rw [right_ver h0 (by omega), right_ver (u := u + 1) (by omega) (by omega), right_ver (u := 1 + 1) (by omega) (by omega)]
theorem lessL_ver {u : Int} {l : List Int} {x : Int} (h0 : 1 ≤ u) (h1 : u ≤ 1000) : lessL u l x = lessL 1 l x := by
  unfold lessL hasB nextL
  rw [right_ver h0 (by omega), right_ver (u := u + 1) (by omega) (by omega), right_ver (u := 1 + 1) (by omega) (by omega)]
theorem lessV_yes {u : Int} {l : List Int} {x : Int} (h : lessB u l x = true) : lessV u l x = u + 1 := by
  unfold lessB at h
  rw [Bool.and_eq_true] at h
  unfold lessV nextV
  rw [if_pos h.1, if_pos h.2]
theorem hasB_ver {u : Int} {l : List Int} {x : Int} (h0 : 1 ≤ u) (h1 : u ≤ 1000) : hasB u l x = hasB 1 l x := by
  unfold hasB
  rw [right_ver h0 (by omega)]
theorem sameB_self (v : Int) (l : List Int) : sameB v l v l = true := by unfold sameB; simp
theorem fol_with {u : Int} {l : List Int} {k : Nat} (hk : k < 8) (h : withB u l k = true) : followsB u l (withV u l k) (withL u l k) = true :=
  List.any_eq_true.2 ⟨k, List.mem_range.2 hk, by unfold stepB; rw [h, sameB_self]; rfl⟩
theorem fol_less {u : Int} {l : List Int} {k : Nat} (hk : k < 8) (h : lessB u l k = true) : followsB u l (lessV u l k) (lessL u l k) = true :=
  List.any_eq_true.2 ⟨k, List.mem_range.2 hk, by unfold stepB; rw [h, sameB_self]; simp⟩
theorem fol_no (u : Int) (l m : List Int) : followsB u l (u + 2) m = false := by
  refine List.any_eq_false.2 fun k _ => ?_
  unfold stepB
  have h1 : (withB u l k && sameB (withV u l k) (withL u l k) (u + 2) m) = false := by
    cases h : withB u l k
    · rfl
    · rw [withV_yes h]; unfold sameB
      rw [show (u + 1 == u + 2) = false by simp]; rfl
  have h2 : (lessB u l k && sameB (lessV u l k) (lessL u l k) (u + 2) m) = false := by
    cases h : lessB u l k
    · rfl
    · rw [lessV_yes h]; unfold sameB
      rw [show (u + 1 == u + 2) = false by simp]; rfl
  rw [h1, h2]; decide
def chb (b k : Nat) : Bool := !decide (withB 1 (mem8 b 8) k = true) || (decide (lessB 1 (mem8 (b ||| 2 ^ k) 8) k = true) && (decide (lessL 1 (mem8 (b ||| 2 ^ k) 8) k = mem8 b 8) && (decide (hasB 1 (mem8 (b ||| 2 ^ k) 8) k = true) && decide (hasB 1 (mem8 b 8) k = false))))
theorem chb_all : ((List.range 256).all fun b => (List.range 8).all fun k => chb b k) = true := by decide +kernel
theorem chb_is {b k : Nat} (hb : b < 256) (hk : k < 8) (h : withB 1 (mem8 b 8) k = true) : lessB 1 (mem8 (b ||| 2 ^ k) 8) k = true ∧ lessL 1 (mem8 (b ||| 2 ^ k) 8) k = mem8 b 8 ∧ hasB 1 (mem8 (b ||| 2 ^ k) 8) k = true ∧ hasB 1 (mem8 b 8) k = false := by
  have h1 := List.all_eq_true.1 chb_all b (List.mem_range.2 hb)
  have h2 := List.all_eq_true.1 h1 k (List.mem_range.2 hk)
  unfold chb at h2
  rw [h] at h2
  simp only [Bool.not_true, decide_true, Bool.false_or, Bool.and_eq_true, decide_eq_true_eq] at h2
  exact h2
set_option maxHeartbeats 8000000 in
set_option maxRecDepth 100000 in
theorem back_law (x0 x1 v : Int) (hv0 : 0 ≤ v) (hv1 : v < 18446744073709551616) (w : World) : Calls Try.prog 9 #[.int .i64 x0, .int .i64 x1, .int .u64 v] w fun e w' => e = .returned (.bool true) ∧ Below w.heap.size w w' := by
  obtain ⟨b, hb, _, e255⟩ := and_mask x0 255 (by decide)
  obtain ⟨k, hk, hk7, e7⟩ := and_mask x1 7 (by decide)
  have hk8 : k < 8 := by have := Nat.and_le_right (n := k) (m := 7); omega
  have e255 : bits .and .i64 x0 255 = (b : Int) := e255
  have e7 : bits .and .i64 x1 7 = (k : Int) := e7
  obtain ⟨u, hu⟩ : ∃ u, u = 1 + v % 100 := ⟨_, rfl⟩
  have u0 : 1 ≤ u := by omega
  have u1 : u ≤ 100 := by omega
  have KN := Lib.hid known14_any
  have LL := Lib.hid (fun W => (show Calls Try.prog 25 #[.int .u64 (1 + v % 100), .int .i64 (b : Int)] W (ListPost u (mem8 b 8) W) by rw [← hu]; exact list_any u b hb W))
  have HB := Lib.hid hb
  have HK := Lib.hid hk8
  clear hu hk hk7 hb hk8
  go_enter Try.func9, Try.ntmps9
  go_wp2_with (first | (with_reducible refine stop_load45 ?_) | (with_reducible refine stop_store45 ?_))
  refine (LL.out _).mono ?_
  rintro e w1 ⟨rl, rfl, hll, i1, x1'⟩
  go_wp2_with (first | (with_reducible refine stop_load45 ?_) | (with_reducible refine stop_store45 ?_))
  (with_reducible refine ⟨?_⟩); (with_reducible refine at_any ?_ ?_); (focus go_simp); refine fun K hK => wp_st45 _ _ w1.heap.size u 0 rl nilP rfl rfl rfl (Bk.new rfl _ _) (fun w2 hd ho => hK _ _ ?_)
  have bw : Ex w w2 := Ex.trans x1' ho.ex
  have JL := Lib.hid ((i1.ext ((Below.refl _ _).alloc (Nat.le_refl _) _)).st (n := 0) (q := nilP) ho (Bk.new rfl _ _))
  generalize w1.heap.size = g7 at hd ⊢
  have A := Lib.hid hd
  have HLL := Lib.hid hll
  have cw := with_any u rl (k : Int) w2 JL.out
  rw [hll] at cw
  have CW := Lib.hid cw
  clear hK ho hd x1' i1 LL hll cw
  go_wp2_with (first | (with_reducible refine stop_load45 ?_) | (with_reducible refine stop_store45 ?_))
  (with_reducible refine ⟨?_⟩); (with_reducible refine at_any ?_ ?_); (focus go_simp); refine fun K hK => wp_ld45 _ g7 u rl rfl rfl A.out (hK _ _ ?_)
  clear hK
  go_wp2_with (first | (with_reducible refine stop_load45 ?_) | (with_reducible refine stop_store45 ?_))
  refine CW.out.mono ?_
  rintro e w3 ⟨rm, rfl, hrl, i3, x3⟩
  cases hc : withB u (mem8 b 8) (k : Int)
  · generalize withV u (mem8 b 8) (k : Int) = Vx at *
    clear hc hrl i3 CW
    go_wp2_with (first | (with_reducible refine stop_load45 ?_) | (with_reducible refine stop_store45 ?_))
    (with_reducible refine ⟨?_⟩); (with_reducible refine at_any ?_ ?_); (focus go_simp); refine fun K hK => wp_st45 _ _ w3.heap.size Vx 0 rm nilP rfl rfl rfl (Bk.new rfl _ _) (fun w4 hd ho => hK _ _ ?_)
    replace bw := Ex.trans bw (Ex.trans x3 ho.ex)
    clear hK ho hd x3
    go_wp2_with (first | (with_reducible refine stop_load45 ?_) | (with_reducible refine stop_store45 ?_))
    refine (KN.out _).mono ?_
    rintro e w5 ⟨rfl, x5⟩
    replace bw := Ex.trans bw x5
    go_wp2_with (first | (with_reducible refine stop_load45 ?_) | (with_reducible refine stop_store45 ?_))
    go_ret
    exact ⟨rfl, bw⟩
  · have FW := fol_with HK.out hc
    have hv := withV_yes hc
    rw [hv] at FW ⊢
    have hc1 : withB 1 (mem8 b 8) (k : Int) = true := by rw [← withB_ver u0 (by omega)]; exact hc
    have hL : withL u (mem8 b 8) (k : Int) = mem8 (b ||| 2 ^ k) 8 := by rw [withL_ver u0 (by omega)]; exact (chk_is HB.out HK.out hc1).1
    rw [hL] at FW hrl
    obtain ⟨p1, p2, p3, p4⟩ := chb_is HB.out HK.out hc1
    obtain ⟨M, hM⟩ : ∃ M, M = mem8 (b ||| 2 ^ k) 8 := ⟨_, rfl⟩
    obtain ⟨Z, hZ⟩ : ∃ M, M = mem8 b 8 := ⟨_, rfl⟩
    rw [← hM] at FW hrl p1 p2 p3
    rw [← hZ] at FW p2 p4
    have hzl : Z.length ≤ 8 := by rw [hZ]; exact mem8_len b 8
    have hml : M.length ≤ 8 := by rw [hM]; exact mem8_len _ 8
    have hll2 : rl.l = Z := by rw [hZ]; exact HLL.out
    have lb : lessB (u + 1) M (k : Int) = true := by rw [lessB_ver (by omega) (by omega)]; exact p1
    have lv : lessV (u + 1) M (k : Int) = u + 2 := by rw [lessV_yes lb]; omega
    have lL : lessL (u + 1) M (k : Int) = Z := by rw [lessL_ver (by omega) (by omega)]; exact p2
    have FL := fol_less HK.out lb
    rw [lv, lL] at FL
    have h3 : hasB (u + 1) M (k : Int) = true := by rw [hasB_ver (by omega) (by omega)]; exact p3
    have h4 : hasB (u + 2) Z (k : Int) = false := by rw [hasB_ver (by omega) (by omega)]; exact p4
    have FN := fol_no u Z Z
    have HFW := Lib.hid FW
    have HFL := Lib.hid FL
    have HFN := Lib.hid FN
    have H3 := Lib.hid h3
    have H4 := Lib.hid h4
    have LB1 := Lib.hid lb
    have LV1 := Lib.hid lv
    have LL1 := Lib.hid lL
    have HRL := Lib.hid hrl
    have HL2 := Lib.hid hll2
    have HZL := Lib.hid hzl
    have HML := Lib.hid hml
    clear FW FL FN h3 h4 lb lv lL p1 p2 p3 p4 hc1 hL hc hv hM hZ hrl hll2 CW HLL hzl hml
    go_wp2_with (first | (with_reducible refine stop_load45 ?_) | (with_reducible refine stop_store45 ?_))
    (with_reducible refine ⟨?_⟩); (with_reducible refine at_any ?_ ?_); (focus go_simp); refine fun K hK => wp_st45 _ _ w3.heap.size (u + 1) 0 rm nilP rfl rfl rfl (Bk.new rfl _ _) (fun w4 hd ho => hK _ _ ?_)
    have x34 := Ex.trans x3 ho.ex
    have JM := Lib.hid ((i3.ext ((Below.refl _ _).alloc (Nat.le_refl _) _)).st (n := 0) (q := nilP) ho (Bk.new rfl _ _))
    replace A := Lib.hid (LB.ext A.out x34)
    replace JL := Lib.hid (Pt.In.ext JL.out x34)
    replace bw := Ex.trans bw x34
    generalize w3.heap.size = g8 at hd ⊢
    have G := Lib.hid hd
    clear hK ho hd x3 x34 i3
    have cl := less_any' (u + 1) rm (k : Int) w4 JM.out
    rw [HRL.out, LB1.out, LV1.out, LL1.out] at cl
    have CL := Lib.hid cl
    clear cl
    go_wp2_with (first | (with_reducible refine stop_load45 ?_) | (with_reducible refine stop_store45 ?_))
    (with_reducible refine ⟨?_⟩); (with_reducible refine at_any ?_ ?_); (focus go_simp); refine fun K hK => wp_ld45 _ g8 (u + 1) rm rfl rfl G.out (hK _ _ ?_)
    clear hK
    go_wp2_with (first | (with_reducible refine stop_load45 ?_) | (with_reducible refine stop_store45 ?_))
    refine CL.out.mono ?_
    rintro e w5 ⟨rn, rfl, hrn, i5, x5⟩
    have HRN := Lib.hid hrn
    go_wp2_with (first | (with_reducible refine stop_load45 ?_) | (with_reducible refine stop_store45 ?_))
    (with_reducible refine ⟨?_⟩); (with_reducible refine at_any ?_ ?_); (focus go_simp); refine fun K hK => wp_st45 _ _ w5.heap.size (u + 2) 0 rn nilP rfl rfl rfl (Bk.new rfl _ _) (fun w6 hd ho => hK _ _ ?_)
    have x56 := Ex.trans x5 ho.ex
    have JN := Lib.hid ((i5.ext ((Below.refl _ _).alloc (Nat.le_refl _) _)).st (n := 0) (q := nilP) ho (Bk.new rfl _ _))
    replace A := Lib.hid (LB.ext A.out x56)
    replace G := Lib.hid (LB.ext G.out x56)
    replace JL := Lib.hid (Pt.In.ext JL.out x56)
    replace JM := Lib.hid (Pt.In.ext JM.out x56)
    replace bw := Ex.trans bw x56
    generalize w5.heap.size = g10 at hd ⊢
    have H := Lib.hid hd
    clear hK ho hd x5 x56 i5 hrn CL
    have cs := sameI_any rn rl w6 JN.out JL.out (by rw [HRN.out]; have := HZL.out; omega) (by rw [HL2.out]; have := HZL.out; omega)
    rw [HRN.out, HL2.out, decide_eq_true rfl] at cs
    obtain ⟨nv, hnv⟩ : ∃ x, x = rn.V := ⟨_, rfl⟩
    obtain ⟨lv, hlv⟩ : ∃ x, x = rl.V := ⟨_, rfl⟩
    have f1 : w6.cell? ⟨g10, 1, none⟩ = some nv := by rw [hnv]; exact Bk.cell H.out 1
    have f2 : w6.cell? ⟨g7, 1, none⟩ = some lv := by rw [hlv]; exact Bk.cell A.out 1
    rw [← hnv, ← hlv] at cs
    have CS := Lib.hid cs
    clear hnv hlv cs
    go_wp2_with (first | (with_reducible refine stop_load45 ?_) | (with_reducible refine stop_store45 ?_))
    refine CS.out.mono ?_
    rintro e w7 ⟨rfl, x7⟩
    replace A := Lib.hid (LB.ext A.out x7)
    replace G := Lib.hid (LB.ext G.out x7)
    replace H := Lib.hid (LB.ext H.out x7)
    replace JL := Lib.hid (Pt.In.ext JL.out x7)
    replace JM := Lib.hid (Pt.In.ext JM.out x7)
    replace JN := Lib.hid (Pt.In.ext JN.out x7)
    replace bw := Ex.trans bw x7
    clear x7 f1 f2 CS
    have f3 : w7.cell? ⟨g10, 0, none⟩ = some (.int .u64 (u + 2)) := Bk.cell H.out 0
    have f4 : w7.cell? ⟨g7, 0, none⟩ = some (.int .u64 u) := Bk.cell A.out 0
    go_wp2_with (first | (with_reducible refine stop_load45 ?_) | (with_reducible refine stop_store45 ?_))
    (with_reducible refine ⟨?_⟩); (with_reducible refine at_any ?_ ?_); (focus go_simp); refine fun K hK => wp_ld45 _ g7 u rl rfl rfl A.out (hK _ _ ?_)
    clear hK f3 f4
    go_wp2_with (first | (with_reducible refine stop_load45 ?_) | (with_reducible refine stop_store45 ?_))
    (with_reducible refine ⟨?_⟩); (with_reducible refine at_any ?_ ?_); (focus go_simp); refine fun K hK => wp_ld45 _ g8 (u + 1) rm rfl rfl G.out (hK _ _ ?_)
    clear hK
    go_wp2_with (first | (with_reducible refine stop_load45 ?_) | (with_reducible refine stop_store45 ?_))
    have cf := follows_any u (u + 1) rl rm w7 JL.out JM.out (by rw [HRL.out]; have := HML.out; omega)
    rw [HL2.out, HRL.out, HFW.out] at cf
    refine cf.mono ?_
    rintro e w8 ⟨rfl, x8⟩
    replace A := Lib.hid (LB.ext A.out x8)
    replace G := Lib.hid (LB.ext G.out x8)
    replace H := Lib.hid (LB.ext H.out x8)
    replace JL := Lib.hid (Pt.In.ext JL.out x8)
    replace JM := Lib.hid (Pt.In.ext JM.out x8)
    replace JN := Lib.hid (Pt.In.ext JN.out x8)
    replace bw := Ex.trans bw x8
    clear x8 cf
    go_wp2_with (first | (with_reducible refine stop_load45 ?_) | (with_reducible refine stop_store45 ?_))
    (with_reducible refine ⟨?_⟩); (with_reducible refine at_any ?_ ?_); (focus go_simp); refine fun K hK => wp_ld45 _ g8 (u + 1) rm rfl rfl G.out (hK _ _ ?_)
    clear hK
    go_wp2_with (first | (with_reducible refine stop_load45 ?_) | (with_reducible refine stop_store45 ?_))
    (with_reducible refine ⟨?_⟩); (with_reducible refine at_any ?_ ?_); (focus go_simp); refine fun K hK => wp_ld45 _ g10 (u + 2) rn rfl rfl H.out (hK _ _ ?_)
    clear hK
    go_wp2_with (first | (with_reducible refine stop_load45 ?_) | (with_reducible refine stop_store45 ?_))
    have cf := follows_any (u + 1) (u + 2) rm rn w8 JM.out JN.out (by rw [HRN.out]; have := HZL.out; omega)
    rw [HRL.out, HRN.out, HFL.out] at cf
    refine cf.mono ?_
    rintro e w9 ⟨rfl, x9⟩
    replace A := Lib.hid (LB.ext A.out x9)
    replace G := Lib.hid (LB.ext G.out x9)
    replace H := Lib.hid (LB.ext H.out x9)
    replace JL := Lib.hid (Pt.In.ext JL.out x9)
    replace JM := Lib.hid (Pt.In.ext JM.out x9)
    replace JN := Lib.hid (Pt.In.ext JN.out x9)
    replace bw := Ex.trans bw x9
    clear x9 cf
    go_wp2_with (first | (with_reducible refine stop_load45 ?_) | (with_reducible refine stop_store45 ?_))
    (with_reducible refine ⟨?_⟩); (with_reducible refine at_any ?_ ?_); (focus go_simp); refine fun K hK => wp_ld45 _ g7 u rl rfl rfl A.out (hK _ _ ?_)
    clear hK
    go_wp2_with (first | (with_reducible refine stop_load45 ?_) | (with_reducible refine stop_store45 ?_))
    (with_reducible refine ⟨?_⟩); (with_reducible refine at_any ?_ ?_); (focus go_simp); refine fun K hK => wp_ld45 _ g10 (u + 2) rn rfl rfl H.out (hK _ _ ?_)
    clear hK
    go_wp2_with (first | (with_reducible refine stop_load45 ?_) | (with_reducible refine stop_store45 ?_))
    have cf := follows_any u (u + 2) rl rn w9 JL.out JN.out (by rw [HRN.out]; have := HZL.out; omega)
    rw [HL2.out, HRN.out, HFN.out] at cf
    refine cf.mono ?_
    rintro e w10 ⟨rfl, x10⟩
    replace G := Lib.hid (LB.ext G.out x10)
    replace H := Lib.hid (LB.ext H.out x10)
    replace JM := Lib.hid (Pt.In.ext JM.out x10)
    replace JN := Lib.hid (Pt.In.ext JN.out x10)
    replace bw := Ex.trans bw x10
    clear x10 cf
    go_wp2_with (first | (with_reducible refine stop_load45 ?_) | (with_reducible refine stop_store45 ?_))
    (with_reducible refine ⟨?_⟩); (with_reducible refine at_any ?_ ?_); (focus go_simp); refine fun K hK => wp_ld45 _ g8 (u + 1) rm rfl rfl G.out (hK _ _ ?_)
    clear hK
    go_wp2_with (first | (with_reducible refine stop_load45 ?_) | (with_reducible refine stop_store45 ?_))
    have ch := has_any (u + 1) rm (k : Int) w10 JM.out
    rw [HRL.out, H3.out] at ch
    refine ch.mono ?_
    rintro e w11 ⟨rfl, x11⟩
    replace H := Lib.hid (LB.ext H.out x11)
    replace JN := Lib.hid (Pt.In.ext JN.out x11)
    replace bw := Ex.trans bw x11
    clear x11 ch
    go_wp2_with (first | (with_reducible refine stop_load45 ?_) | (with_reducible refine stop_store45 ?_))
    (with_reducible refine ⟨?_⟩); (with_reducible refine at_any ?_ ?_); (focus go_simp); refine fun K hK => wp_ld45 _ g10 (u + 2) rn rfl rfl H.out (hK _ _ ?_)
    clear hK
    go_wp2_with (first | (with_reducible refine stop_load45 ?_) | (with_reducible refine stop_store45 ?_))
    have ch := has_any (u + 2) rn (k : Int) w11 JN.out
    rw [HRN.out, H4.out] at ch
    refine ch.mono ?_
    rintro e w12 ⟨rfl, x12⟩
    replace bw := Ex.trans bw x12
    go_wp2_with (first | (with_reducible refine stop_load45 ?_) | (with_reducible refine stop_store45 ?_))
    refine (KN.out _).mono ?_
    rintro e w13 ⟨rfl, x13⟩
    replace bw := Ex.trans bw x13
    go_wp2_with (first | (with_reducible refine stop_load45 ?_) | (with_reducible refine stop_store45 ?_))
    go_ret
    exact ⟨rfl, bw⟩
theorem rosterBack_law (a b v : Int) (w : World) (_ : (Lit.int .i64 a).wf = true) (_ : (Lit.int .i64 b).wf = true) (h : (Lit.int .u64 v).wf = true) : Calls Try.prog 9 #[.int .i64 a, .int .i64 b, .int .u64 v] w fun e w' => e = .returned (.bool true) ∧ Below w.heap.size w w' := by
  simp [Lit.wf, IntKind.min, IntKind.max, IntKind.signed, IntKind.bits] at h
  exact back_law a b v (by omega) (by omega) w
end Go.Proofs.Ytgoiidpcdifojaa
