/- after of chapter 14's statements -/
import Derived.Test.YtgoiidpcdifojaaTa
import Derived.Test.YtgoiidpcdifojaaFlV
namespace Go.Proofs.Ytgoiidpcdifojaa
open Go.RowKit
theorem xor_nat (a b : Nat) (ha : a < 256) (hb : b < 256) : bits .xor .i64 (a : Int) (b : Int) = ((a ^^^ b : Nat) : Int) := by
  have h1 : a ^^^ b < 256 := Nat.xor_lt_two_pow (n := 8) ha hb
  have ha' : a % 2 ^ IntKind.i64.bits = a := Nat.mod_eq_of_lt (by simp [IntKind.bits]; omega)
  have hb' : b % 2 ^ IntKind.i64.bits = b := Nat.mod_eq_of_lt (by simp [IntKind.bits]; omega)
  simp only [bits, BitVec.ofInt_natCast, BitVec.toNat_xor, BitVec.toNat_ofNat, ha', hb']
  exact IntWalk.i64_in _ ⟨by omega, by omega⟩
set_option maxHeartbeats 8000000 in
set_option maxRecDepth 100000 in
theorem after_any (va vb : Int) (p q : Pt) (w : World) (hp : p.In w w.heap.size) (hq : q.In w w.heap.size) :
    Calls Try.prog 27 #[LV va p, LV vb q] w fun e w' => e = .returned (.bool (afterB va p.l vb q.l)) ∧ Below w.heap.size w w' := by
  have CA := Lib.hid (fun W (h : Ex w W) => rright_any va p W (hp.ext h))
  have CB := Lib.hid (fun W (h : Ex w W) => rright_any vb q W (hq.ext h))
  have SA := Lib.hid (fun (h : rightB va p.l = true) W (hW : Ex w W) => set_any va p W (hp.ext hW) (right_len h).2.2.2.2 (right_len h).2.2.2.1)
  have SB := Lib.hid (fun (h : rightB vb q.l = true) W (hW : Ex w W) => set_any vb q W (hq.ext hW) (right_len h).2.2.2.2 (right_len h).2.2.2.1)
  have LA := Lib.hid (fun (h : rightB va p.l = true) => (⟨(right_mem8 h).1, (right_len h).1, (right_len h).2.1⟩ : setN p.l < 256 ∧ 1 ≤ va ∧ va ≤ 1099511627776))
  have LBB := Lib.hid (fun (h : rightB vb q.l = true) => (right_mem8 h).1)
  have AF := Lib.hid (show afterB va p.l vb q.l = (rightB va p.l && (rightB vb q.l && (decide (vb = va + 1) && twoB (setN p.l ^^^ setN q.l)))) from rfl)
  generalize afterB va p.l vb q.l = fb at *
  have b0 : Hid (LB ((w.alloc (.cells #[.int .u64 va, p.V] 45)).alloc (.cells #[.int .u64 vb, q.V] 45)) w.heap.size va p) := Lib.hid ((Bk.new rfl _ _).more _)
  have b1 : Hid (LB ((w.alloc (.cells #[.int .u64 va, p.V] 45)).alloc (.cells #[.int .u64 vb, q.V] 45)) (w.heap.size + 1) vb q) := Lib.hid (Bk.new (by simp) _ _)
  have BW := Lib.hid (show Ex w ((w.alloc (.cells #[.int .u64 va, p.V] 45)).alloc (.cells #[.int .u64 vb, q.V] 45)) from ((Below.refl _ _).alloc (Nat.le_refl _) _).alloc (by simp) _)
  rw [show (Calls Try.prog 27 #[LV va p, LV vb q] w) = (Calls Try.prog 27 #[.agg #[.int .u64 va, p.V], .agg #[.int .u64 vb, q.V]] w) from rfl]
  clear hp hq
  go_enter Try.func27, Try.ntmps27
  go_wp2_with (first | (with_reducible refine stop_load45 ?_) | (with_reducible refine stop_store45 ?_))
  have bw := BW.out
  generalize hw1 : (w.alloc (.cells #[.int .u64 va, p.V] 45)).alloc (.cells #[.int .u64 vb, q.V] 45) = w1 at *
  obtain ⟨B, hB⟩ : ∃ B, B = w.heap.size := ⟨_, rfl⟩
  rw [← hB] at b0 b1 ⊢
  have A := b0
  have Bq := b1
  clear hw1 hB BW b0 b1
  (with_reducible refine ⟨?_⟩); (with_reducible refine at_any ?_ ?_); (focus go_simp); refine fun K hK => wp_ld45 _ B va p rfl rfl A.out (hK _ _ ?_)
  clear hK
  go_wp2_with (first | (with_reducible refine stop_load45 ?_) | (with_reducible refine stop_store45 ?_))
  refine (CA.out _ bw).mono ?_
  rintro e w2 ⟨rfl, x2⟩
  replace A := Lib.hid (LB.ext A.out x2)
  replace Bq := Lib.hid (LB.ext Bq.out x2)
  replace bw := Ex.trans bw x2
  clear x2
  cases ra : rightB va p.l
  · have R := Lib.hid (show fb = false by rw [AF.out, ra]; rfl)
    clear ra CA CB SA SB LA LBB AF
    go_wp2_with (first | (with_reducible refine stop_load45 ?_) | (with_reducible refine stop_store45 ?_))
    (with_reducible refine ⟨?_⟩); (with_reducible refine at_not ?_ ?_); (focus go_simp)
    go_wp2_with (first | (with_reducible refine stop_load45 ?_) | (with_reducible refine stop_store45 ?_))
    go_ret
    exact ⟨ret_eq (congrArg Value.bool R.out.symm), bw⟩
  · obtain ⟨xl, va1, va2⟩ := LA.out ra
    have C1 := Lib.hid (fun W (h : Ex w W) => SA.out ra W h)
    rw [ra, Bool.true_and] at AF
    clear ra CA SA LA
    go_wp2_with (first | (with_reducible refine stop_load45 ?_) | (with_reducible refine stop_store45 ?_))
    (with_reducible refine ⟨?_⟩); (with_reducible refine at_any ?_ ?_); (focus go_simp); refine fun K hK => wp_ld45 _ (B + 1) vb q rfl rfl Bq.out (hK _ _ ?_)
    clear hK
    go_wp2_with (first | (with_reducible refine stop_load45 ?_) | (with_reducible refine stop_store45 ?_))
    refine (CB.out _ bw).mono ?_
    rintro e w3 ⟨rfl, x3⟩
    replace A := Lib.hid (LB.ext A.out x3)
    replace Bq := Lib.hid (LB.ext Bq.out x3)
    replace bw := Ex.trans bw x3
    clear x3
    cases rb : rightB vb q.l
    · have R := Lib.hid (show fb = false by rw [AF.out, rb]; rfl)
      clear rb CB SB LBB AF xl
      go_wp2_with (first | (with_reducible refine stop_load45 ?_) | (with_reducible refine stop_store45 ?_))
      go_ret
      exact ⟨ret_eq (congrArg Value.bool R.out.symm), bw⟩
    · have yl := LBB.out rb
      have C2 := Lib.hid (fun W (h : Ex w W) => SB.out rb W h)
      rw [rb, Bool.true_and] at AF
      clear rb CB SB LBB
      have f0 : w3.cell? ⟨B, 0, none⟩ = some (.int .u64 va) := Bk.cell A.out 0
      have f1 : w3.cell? ⟨B + 1, 0, none⟩ = some (.int .u64 vb) := Bk.cell Bq.out 0
      by_cases hv : vb = va + 1
      · have AF2 := Lib.hid (show fb = twoB (setN p.l ^^^ setN q.l) by rw [AF.out, decide_eq_true hv]; rfl)
        have e1 : (vb != va + 1) = false := by simp [hv]
        have EX := Lib.hid (xor_nat _ _ xl yl)
        have HD := Lib.hid (show setN p.l ^^^ setN q.l < 256 from Nat.xor_lt_two_pow (n := 8) xl yl)
        generalize setN p.l = x at *
        generalize setN q.l = y at *
        generalize x ^^^ y = d at *
        clear hv AF
        go_wp2_with (first | (with_reducible refine stop_load45 ?_) | (with_reducible refine stop_store45 ?_))
        clear f0 f1 e1
        generalize w3 = wr at *
        replace C1 := Lib.hid (fun W (h : Ex wr W) => C1.out W (Ex.trans bw h))
        replace C2 := Lib.hid (fun W (h : Ex wr W) => C2.out W (Ex.trans bw h))
        obtain ⟨V, hV⟩ : ∃ V : List Value, V = [LV va p, .int .i64 (x : Int), LV vb q, .int .i64 (y : Int), .int .i64 (d : Int), .int .i64 (d : Int)] := ⟨_, rfl⟩
        refine wp_region_val (fun i => V.getD i undef) (fun _ w2 => Ex wr w2) (by kernel_rfl) (by kernel_rfl) (by kernel_rfl) (fitB_spec (by kernel_rfl)) ?_ ?_ ?_
        · intro l h0
          exact (Below.refl _ _).drew
        · intro i o ho
          have hi : i < 6 := (Array.getElem?_eq_some_iff.1 ho).1
          have hi' : i = 0 ∨ i = 1 ∨ i = 2 ∨ i = 3 ∨ i = 4 ∨ i = 5 := by omega
          clear hi
          rcases hi' with rfl | rfl | rfl | rfl | rfl | rfl
          all_goals (simp only [List.getElem?_toArray, List.getElem?_cons_zero, List.getElem?_cons_succ, Option.some.injEq] at ho; subst ho hV; intro listed a w2 hI hsz hls hun hdep hout)
          · rw [if_pos (by rfl)]
            intro K hK
            have q2 := hout 2 (outB_spec (by kernel_rfl))
            exact wp_ld45 _ B va p rfl q2 (LB.ext A.out hI) (hK _ hI)
          · rw [if_pos (by rfl)]
            intro K hK
            have q22 := (hdep ⟨0, .data⟩ (by simp) rfl).2 _ rfl _ rfl
            have q22 : a.tmps.getD 22 undef = LV va p := q22
            clear hsz hdep hout hun
            go_simp
            refine (C1.out _ hI).mono ?_
            rintro e w3 ⟨rfl, x3⟩
            exact hK _ (Ex.trans hI x3)
          · rw [if_pos (by rfl)]
            intro K hK
            have q3 := hout 3 (outB_spec (by kernel_rfl))
            exact wp_ld45 _ (B + 1) vb q rfl q3 (LB.ext Bq.out hI) (hK _ hI)
          · rw [if_pos (by rfl)]
            intro K hK
            have q24 := (hdep ⟨2, .data⟩ (by simp) rfl).2 _ rfl _ rfl
            have q24 : a.tmps.getD 24 undef = LV vb q := q24
            clear hsz hdep hout hun
            go_simp
            refine (C2.out _ hI).mono ?_
            rintro e w3 ⟨rfl, x3⟩
            exact hK _ (Ex.trans hI x3)
          · rw [if_pos (by rfl)]
            intro K hK
            have q23 := (hdep ⟨1, .data⟩ (by simp) rfl).2 _ rfl _ rfl
            have q23 : a.tmps.getD 23 undef = .int .i64 (x : Int) := q23
            have q25 := (hdep ⟨3, .data⟩ (by simp) rfl).2 _ rfl _ rfl
            have q25 : a.tmps.getD 25 undef = .int .i64 (y : Int) := q25
            have ex := EX.out
            clear hsz hdep hout hun
            go_simp
            exact hK _ hI
          · rw [if_pos (by rfl)]
            intro K hK
            have q26 := (hdep ⟨4, .data⟩ (by simp) rfl).2 _ rfl _ rfl
            have q26 : a.tmps.getD 26 undef = .int .i64 (d : Int) := q26
            clear hsz hdep hout hun
            go_simp
            exact hK _ (by exact hI)
        · intro l w4 hall hI
          subst hV
          simp only [putAll, List.getD_cons_zero, List.getD_cons_succ, Act.put, List.setIfInBounds_toArray, List.set_cons_zero, List.set_cons_succ]
          have bw4 : Ex w w4 := Ex.trans bw hI
          clear hI hall
          by_cases d0 : d = 0
          · subst d0
            have R := Lib.hid (show fb = false by rw [AF2.out]; rfl)
            go_wp2_with (first | (with_reducible refine stop_load45 ?_) | (with_reducible refine stop_store45 ?_))
            go_ret
            exact ⟨ret_eq (congrArg Value.bool R.out.symm), bw4⟩
          · have hd1 : (1 : Int) ≤ (d : Int) := by omega
            have hd2 : (d : Int) < 256 := by have := HD.out; omega
            obtain ⟨z, hz⟩ : ∃ z, z = d &&& (d - 1) := ⟨_, rfl⟩
            have ea : bits .and .i64 (d : Int) ((d : Int) - 1) = (z : Int) := by
              rw [show (d : Int) - 1 = ((d - 1 : Nat) : Int) by omega, hz]
              exact and_nat d (d - 1) HD.out (by have := HD.out; omega)
            have en1 : ((d : Int) != 0) = true := by simp; omega
            have en2 : ((d : Int) == 0) = false := by simp; omega
            have AF3 := Lib.hid (show fb = decide (z = 0) by
              rw [AF2.out]; unfold twoB; rw [← hz, show (d != 0) = true by simp; omega]
              by_cases h : z = 0 <;> simp [h])
            clear hz d0
            by_cases z0 : z = 0
            · have ez : ((z : Int) == 0) = true := by simp [z0]
              have R := Lib.hid (show fb = true by rw [AF3.out]; exact decide_eq_true z0)
              clear z0
              go_wp2_with (first | (with_reducible refine stop_load45 ?_) | (with_reducible refine stop_store45 ?_))
              go_ret
              exact ⟨ret_eq (congrArg Value.bool R.out.symm), bw4⟩
            · have ez : ((z : Int) == 0) = false := by simp; omega
              have R := Lib.hid (show fb = false by rw [AF3.out]; exact decide_eq_false z0)
              clear z0
              go_wp2_with (first | (with_reducible refine stop_load45 ?_) | (with_reducible refine stop_store45 ?_))
              go_ret
              exact ⟨ret_eq (congrArg Value.bool R.out.symm), bw4⟩
      · have e1 : (vb != va + 1) = true := by simpa using hv
        have R := Lib.hid (show fb = false by rw [AF.out, decide_eq_false hv]; rfl)
        clear hv AF xl yl
        go_wp2_with (first | (with_reducible refine stop_load45 ?_) | (with_reducible refine stop_store45 ?_))
        go_ret
        exact ⟨ret_eq (congrArg Value.bool R.out.symm), bw⟩
end Go.Proofs.Ytgoiidpcdifojaa
