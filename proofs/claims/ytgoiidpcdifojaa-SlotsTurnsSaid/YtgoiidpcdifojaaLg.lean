/- disks: Crash -/
import Derived.Test.YtgoiidpcdifojaaLf
namespace Go.Proofs.Ytgoiidpcdifojaa
open Go.RowKit
theorem stop_load70 {P : Program} {ops : Array Oper} {rest : List Oper} {d : Option Tmp} {x : Operand} {t2 : TypeId} {pos : String} {af : Array Edge} {g : Option (Nat × Bool)} {a : Act} {w : World} {Q : Exit → Act → World → Prop}
    (k : Stop (wpList P ops Q ({ dst := d, op := .load 70 x, type := t2, pos := pos, after := af, guard := g } :: rest) a w)) : wpList P ops Q ({ dst := d, op := .load 70 x, type := t2, pos := pos, after := af, guard := g } :: rest) a w := k.go
theorem stop_store70 {P : Program} {ops : Array Oper} {rest : List Oper} {d : Option Tmp} {x y : Operand} {t2 : TypeId} {pos : String} {af : Array Edge} {g : Option (Nat × Bool)} {a : Act} {w : World} {Q : Exit → Act → World → Prop}
    (k : Stop (wpList P ops Q ({ dst := d, op := .store 70 x y, type := t2, pos := pos, after := af, guard := g } :: rest) a w)) : wpList P ops Q ({ dst := d, op := .store 70 x y, type := t2, pos := pos, after := af, guard := g } :: rest) a w := k.go
theorem wp_min7 {o : Oper} {a : Act} {w : World} {K : Act → World → Prop} {Q : Exit → Act → World → Prop} (x y : Operand) (hop : o.op = .call { callee := .builtin .min, args := #[x, y], argTypes := #[3, 3] }) (p q : Int) (hx : a.eval x = .int .i64 p) (hy : a.eval y = .int .i64 q)
    (h : K (a.put o.dst (.int .i64 (min p q))) w) : o.wp Try.prog a w K Q := by
  unfold Oper.wp
  have hm : (Builtin.min_ #[3, 3] o.type #[.int .i64 p, .int .i64 q]).run Try.prog w = .ok (.int .i64 (min p q)) w := by
    by_cases c : p ≤ q
    · simp [Builtin.min_, Builtin.min2, Int.min_eq_left c, show ¬ q < p by omega]
    · simp [Builtin.min_, Builtin.min2, Int.min_eq_right (by omega : q ≤ p), show q < p by omega]
  simp [execOp, hop, resolve, invoke, builtin, hx, hy, hm, Result.andThen]
  exact h
def crashN (c : Dc) (t : Nat) : List (Bool × List UInt8) := if 0 < c.pend ∧ 0 < t then c.las.set c.lst.toNat (true, c.put.take t) else c.las
def crashC (c : Dc) (t : Nat) : Dc := ⟨crashN c t, crashN c t, 0, c.lst, []⟩
set_option maxHeartbeats 4000000 in
set_option maxRecDepth 100000 in
theorem crash_no (g : Nat) (t : Nat) (ht : t ≤ 1000) (d : Dk) (w : World) (h : d.At w g) (hno : ¬ (0 < d.pend ∧ 0 < t)) : Calls Try.prog 19 #[.pointer (some ⟨g, 0, none⟩), .int .i64 t] w (MdPost g (crashC d.ct t) w) := by
  have HD := Lib.hid h
  have SY := Lib.hid (fun (W : World) (c : Dc) (k : DK W g c) => sync_any g c W k)
  clear h
  go_enter Try.func19, Try.ntmps19
  go_wp2_with (first | (with_reducible refine stop_load70 ?_) | (with_reducible refine stop_store70 ?_))
  (with_reducible refine ⟨?_⟩); (with_reducible refine at_any ?_ ?_); (focus go_simp); refine fun K0 hK => wp_ld70 _ g 20 d.las HD.out.l10 rfl rfl (dk_las_range HD.out) (hK _ _ ?_)
  clear hK
  go_wp2_with (first | (with_reducible refine stop_load70 ?_) | (with_reducible refine stop_store70 ?_))
  (with_reducible refine ⟨?_⟩); (with_reducible refine at_any ?_ ?_); (focus go_simp); refine fun K0 hK => wp_st70 _ _ g 0 d.las HD.out.l10 rfl rfl rfl (slC d.now ++ slC d.las ++ [.int .i64 d.pend, .int .i64 d.lst, d.put.V]) HD.out.blk (by simp [slC20 HD.out.n10, slC20 HD.out.l10]) (fun w2 hb ho => hK _ _ ?_)
  rw [(dk_parts (slC d.now) (slC d.las) _ (slC20 HD.out.n10) (slC20 HD.out.l10) (slC d.las) (slC20 HD.out.l10)).2] at hb
  have L20 := Lib.hid (slC20 HD.out.l10)
  have HB := Lib.hid hb
  have M2 := Lib.hid ho.md
  have D2 : Hid ((Dk.mk d.las d.las d.pend d.lst d.put).At w2 g) := Lib.hid ⟨hb, HD.out.l10, HD.out.l10, fun i x hx => pt_md (HD.out.lin i x hx) HD.out.blk ho.md, fun i x hx => pt_md (HD.out.lin i x hx) HD.out.blk ho.md, pt_md HD.out.pin HD.out.blk ho.md⟩
  have c40 : w2.cell? ⟨g, 40, none⟩ = some (.int .i64 d.pend) := (hb.cell 40).trans (dk_at _ _ L20.out L20.out _ 0)
  clear hK ho hb
  have e1 : crashC d.ct t = syncC (Dk.mk d.las d.las d.pend d.lst d.put).ct := by unfold crashC crashN; rw [if_neg (show ¬ (0 < d.ct.pend ∧ 0 < t) from hno)]; rfl
  have E1 := Lib.hid e1
  have SY2 := Lib.hid (SY.out w2 _ ⟨_, D2.out, rfl⟩)
  clear SY D2 e1
  by_cases hp : 0 < d.pend
  · have ht0 : t = 0 := by omega
    subst ht0
    clear hno
    go_wp2_with (first | (with_reducible refine stop_load70 ?_) | (with_reducible refine stop_store70 ?_))
    refine SY2.out.mono ?_
    rintro e w7 ⟨rfl, hk7, m7⟩
    go_wp2_with fail
    go_end0
    exact ⟨rfl, by rw [E1.out]; exact hk7, M2.out.trans m7⟩
  · have hp' : decide (0 < d.pend) = false := by simpa using hp
    clear hno
    go_wp2_with (first | (with_reducible refine stop_load70 ?_) | (with_reducible refine stop_store70 ?_))
    refine SY2.out.mono ?_
    rintro e w7 ⟨rfl, hk7, m7⟩
    go_wp2_with fail
    go_end0
    exact ⟨rfl, by rw [E1.out]; exact hk7, M2.out.trans m7⟩
set_option maxHeartbeats 4000000 in
set_option maxRecDepth 100000 in
theorem crash_yes (g : Nat) (t : Nat) (ht : t ≤ 1000) (d : Dk) (w : World) (h : d.At w g) (n : Nat) (hn : n < 10) (hln : d.lst = n) (hyes : 0 < d.pend ∧ 0 < t) (hpl : d.put.l.length ≤ 1000000) : Calls Try.prog 19 #[.pointer (some ⟨g, 0, none⟩), .int .i64 t] w (MdPost g (crashC d.ct t) w) := by
  have HD := Lib.hid h
  have SY := Lib.hid (fun (W : World) (c : Dc) (k : DK W g c) => sync_any g c W k)
  clear h
  go_enter Try.func19, Try.ntmps19
  go_wp2_with (first | (with_reducible refine stop_load70 ?_) | (with_reducible refine stop_store70 ?_))
  (with_reducible refine ⟨?_⟩); (with_reducible refine at_any ?_ ?_); (focus go_simp); refine fun K0 hK => wp_ld70 _ g 20 d.las HD.out.l10 rfl rfl (dk_las_range HD.out) (hK _ _ ?_)
  clear hK
  go_wp2_with (first | (with_reducible refine stop_load70 ?_) | (with_reducible refine stop_store70 ?_))
  (with_reducible refine ⟨?_⟩); (with_reducible refine at_any ?_ ?_); (focus go_simp); refine fun K0 hK => wp_st70 _ _ g 0 d.las HD.out.l10 rfl rfl rfl (slC d.now ++ slC d.las ++ [.int .i64 d.pend, .int .i64 d.lst, d.put.V]) HD.out.blk (by simp [slC20 HD.out.n10, slC20 HD.out.l10]) (fun w2 hb ho => hK _ _ ?_)
  rw [(dk_parts (slC d.now) (slC d.las) _ (slC20 HD.out.n10) (slC20 HD.out.l10) (slC d.las) (slC20 HD.out.l10)).2] at hb
  have L20 := Lib.hid (slC20 HD.out.l10)
  have HB := Lib.hid hb
  have M2 := Lib.hid ho.md
  have D2 : Hid ((Dk.mk d.las d.las d.pend d.lst d.put).At w2 g) := Lib.hid ⟨hb, HD.out.l10, HD.out.l10, fun i x hx => pt_md (HD.out.lin i x hx) HD.out.blk ho.md, fun i x hx => pt_md (HD.out.lin i x hx) HD.out.blk ho.md, pt_md HD.out.pin HD.out.blk ho.md⟩
  have c40 : w2.cell? ⟨g, 40, none⟩ = some (.int .i64 d.pend) := (hb.cell 40).trans (dk_at _ _ L20.out L20.out _ 0)
  clear hK ho hb
  obtain ⟨hp, ht0⟩ := hyes
  obtain ⟨pa, pn, pc, hpv⟩ : ∃ (pa : Option Addr) (pn pc : Nat), pa = d.put.ad ∧ pn = d.put.l.length ∧ pc = d.put.cap := ⟨_, _, _, rfl, rfl, rfl⟩
  have HPV := Lib.hid (show Value.slice pa pn pc = d.put.V by rw [hpv.1, hpv.2.1, hpv.2.2]; rfl)
  have HPN := Lib.hid hpv.2.1
  have HPA := Lib.hid hpv.1
  have HPC := Lib.hid hpv.2.2
  have hpn : pn ≤ 1000000 := by rw [hpv.2.1]; exact hpl
  have hcap : pn ≤ pc := by rw [hpv.2.1, hpv.2.2]; exact HD.out.pin.cap
  obtain ⟨mn, hmn⟩ : ∃ mn, mn = min t pn := ⟨_, rfl⟩
  have HMN := Lib.hid hmn
  have C41 := Lib.hid (show w2.cell? ⟨g, 41, none⟩ = some (.int .i64 n) from (HB.out.cell 41).trans ((dk_at _ _ L20.out L20.out _ 1).trans (by rw [hln]; rfl)))
  have C42 := Lib.hid (show w2.cell? ⟨g, 42, none⟩ = some (.slice pa pn pc) from (HB.out.cell 42).trans ((dk_at _ _ L20.out L20.out _ 2).trans (by rw [HPV.out]; rfl)))
  have I0 := Lib.hid (show (0 : Int) ≤ (n : Int) by omega)
  have I1 := Lib.hid (show (n : Int) < 10 by omega)
  have I2 := Lib.hid hn
  have GLT := Lib.hid HB.out.lt
  have MNF := Lib.hid (show (0 : Int) ≤ (t : Int) by omega)
  have MNV := Lib.hid (show min (t : Int) (pn : Int) = (mn : Int) by omega)
  have S0 := Lib.hid (show (0 : Int) ≤ (mn : Int) by omega)
  have S1 := Lib.hid (show (mn : Int) ≤ (pc : Int) by omega)
  have S2 := Lib.hid (show mn ≤ pc by omega)
  have HLN := Lib.hid hln
  have t0' : (0 : Int) < (t : Int) := by omega
  have HP0 := Lib.hid hp
  have HT0 := Lib.hid ht0
  clear hpv hmn hn hln hpl hcap hpn
  go_wp2_with (first | (with_reducible refine stop_load70 ?_) | (with_reducible refine stop_store70 ?_))
  obtain ⟨T, hT⟩ : ∃ T : List Ar, T = [.is (.pointer (some ⟨g, 0, none⟩)), .is (.pointer (some ⟨g, 0, none⟩)), .is (.pointer (some ⟨g, 0, none⟩)), .is (.pointer (some ⟨g, 41, none⟩)), .is (.int .i64 n), .is (.pointer (some ⟨g, 0, none⟩)), .is (.pointer (some ⟨g, 0, none⟩)), .is (.pointer (some ⟨g, 42, none⟩)), .is (.slice pa pn pc), .is (.int .i64 t), .is (.pointer (some ⟨g, 0, none⟩)), .is (.pointer (some ⟨g, 0, none⟩)), .is (.pointer (some ⟨g, 42, none⟩)), .is (.slice pa pn pc), .is (.int .i64 pn), .is (.int .i64 mn), .is (.slice pa mn pc), .is (.agg #[.bool true, .slice pa mn pc]), .is (.pointer (some ⟨g, 0, none⟩)), .is (.pointer (some ⟨g, 0, none⟩)), .is (.pointer (some ⟨g, 2 * n, none⟩))] := ⟨_, rfl⟩
  refine wp_region_flow 21 (arPhi T) (by kernel_rfl) rfl (by kernel_rfl) (by kernel_rfl) (by kernel_rfl) (arPhi_stable T) (fitB_spec (by kernel_rfl)) ?_ ?_
  · intro i o hi ho
    have hi' : i = 0 ∨ i = 1 ∨ i = 2 ∨ i = 3 ∨ i = 4 ∨ i = 5 ∨ i = 6 ∨ i = 7 ∨ i = 8 ∨ i = 9 ∨ i = 10 ∨ i = 11 ∨ i = 12 ∨ i = 13 ∨ i = 14 ∨ i = 15 ∨ i = 16 ∨ i = 17 ∨ i = 18 ∨ i = 19 ∨ i = 20 := by omega
    clear hi
    rcases hi' with rfl | rfl | rfl | rfl | rfl | rfl | rfl | rfl | rfl | rfl | rfl | rfl | rfl | rfl | rfl | rfl | rfl | rfl | rfl | rfl | rfl
    all_goals (simp only [List.getElem?_toArray, List.getElem?_cons_zero, List.getElem?_cons_succ, Option.some.injEq] at ho; subst ho; intro a w2' hx hsz hdep hout)
    · rw [if_pos (by rfl)]
      intro K hK
      have q0 := hout 0 (outB_spec (by kernel_rfl))
      exact wp_mv _ rfl (hK _ _ (Ex.refl _) (by rw [hT]; exact q0))
    · rw [if_pos (by rfl)]
      intro K hK
      have q0 := hout 0 (outB_spec (by kernel_rfl))
      exact wp_mv _ rfl (hK _ _ (Ex.refl _) (by rw [hT]; exact q0))
    · rw [if_pos (by rfl)]
      intro K hK
      obtain ⟨v21, h21, k21⟩ := hdep ⟨1, .data⟩ (by simp) rfl _ rfl
      have q21 := k21 _ rfl
      clear k21
      rw [hT] at h21
      obtain rfl : v21 = .pointer (some ⟨g, 0, none⟩) := h21
      rw [Array.getD_eq_getD_getElem?] at q21
      clear hsz hdep hout
      go_simp
      exact hK _ _ (Ex.refl _) (by rw [hT]; rfl)
    · rw [if_pos (by rfl)]
      intro K hK
      obtain ⟨v22, h22, k22⟩ := hdep ⟨2, .data⟩ (by simp) rfl _ rfl
      have q22 := k22 _ rfl
      clear k22
      rw [hT] at h22
      obtain rfl : v22 = .pointer (some ⟨g, 0, none⟩) := h22
      rw [Array.getD_eq_getD_getElem?] at q22
      clear hsz hdep hout
      go_simp
      exact hK _ _ (Ex.refl _) (by rw [hT]; rfl)
    · rw [if_pos (by rfl)]
      intro K hK
      obtain ⟨v23, h23, k23⟩ := hdep ⟨3, .data⟩ (by simp) rfl _ rfl
      have q23 := k23 _ rfl
      clear k23
      rw [hT] at h23
      obtain rfl : v23 = .pointer (some ⟨g, 41, none⟩) := h23
      have f1 : w2'.cell? ⟨g, 41, none⟩ = some (.int .i64 n) := (hx.cell (p := ⟨g, 41, none⟩) GLT.out).trans C41.out
      rw [Array.getD_eq_getD_getElem?] at q23
      clear hsz hdep hout
      go_simp
      exact hK _ _ (Ex.refl _) (by rw [hT]; rfl)
    · rw [if_pos (by rfl)]
      intro K hK
      have q0 := hout 0 (outB_spec (by kernel_rfl))
      exact wp_mv _ rfl (hK _ _ (Ex.refl _) (by rw [hT]; exact q0))
    · rw [if_pos (by rfl)]
      intro K hK
      obtain ⟨v25, h25, k25⟩ := hdep ⟨5, .data⟩ (by simp) rfl _ rfl
      have q25 := k25 _ rfl
      clear k25
      rw [hT] at h25
      obtain rfl : v25 = .pointer (some ⟨g, 0, none⟩) := h25
      rw [Array.getD_eq_getD_getElem?] at q25
      clear hsz hdep hout
      go_simp
      exact hK _ _ (Ex.refl _) (by rw [hT]; rfl)
    · rw [if_pos (by rfl)]
      intro K hK
      obtain ⟨v26, h26, k26⟩ := hdep ⟨6, .data⟩ (by simp) rfl _ rfl
      have q26 := k26 _ rfl
      clear k26
      rw [hT] at h26
      obtain rfl : v26 = .pointer (some ⟨g, 0, none⟩) := h26
      rw [Array.getD_eq_getD_getElem?] at q26
      clear hsz hdep hout
      go_simp
      exact hK _ _ (Ex.refl _) (by rw [hT]; rfl)
    · rw [if_pos (by rfl)]
      intro K hK
      obtain ⟨v27, h27, k27⟩ := hdep ⟨7, .data⟩ (by simp) rfl _ rfl
      have q27 := k27 _ rfl
      clear k27
      rw [hT] at h27
      obtain rfl : v27 = .pointer (some ⟨g, 42, none⟩) := h27
      have f1 : w2'.cell? ⟨g, 42, none⟩ = some (.slice pa pn pc) := (hx.cell (p := ⟨g, 42, none⟩) GLT.out).trans C42.out
      rw [Array.getD_eq_getD_getElem?] at q27
      clear hsz hdep hout
      go_simp
      exact hK _ _ (Ex.refl _) (by rw [hT]; rfl)
    · rw [if_pos (by rfl)]
      intro K hK
      have q1 := hout 1 (outB_spec (by kernel_rfl))
      exact wp_mv _ rfl (hK _ _ (Ex.refl _) (by rw [hT]; exact q1))
    · rw [if_pos (by rfl)]
      intro K hK
      have q0 := hout 0 (outB_spec (by kernel_rfl))
      exact wp_mv _ rfl (hK _ _ (Ex.refl _) (by rw [hT]; exact q0))
    · rw [if_pos (by rfl)]
      intro K hK
      obtain ⟨v30, h30, k30⟩ := hdep ⟨10, .data⟩ (by simp) rfl _ rfl
      have q30 := k30 _ rfl
      clear k30
      rw [hT] at h30
      obtain rfl : v30 = .pointer (some ⟨g, 0, none⟩) := h30
      rw [Array.getD_eq_getD_getElem?] at q30
      clear hsz hdep hout
      go_simp
      exact hK _ _ (Ex.refl _) (by rw [hT]; rfl)
    · rw [if_pos (by rfl)]
      intro K hK
      obtain ⟨v31, h31, k31⟩ := hdep ⟨11, .data⟩ (by simp) rfl _ rfl
      have q31 := k31 _ rfl
      clear k31
      rw [hT] at h31
      obtain rfl : v31 = .pointer (some ⟨g, 0, none⟩) := h31
      rw [Array.getD_eq_getD_getElem?] at q31
      clear hsz hdep hout
      go_simp
      exact hK _ _ (Ex.refl _) (by rw [hT]; rfl)
    · rw [if_pos (by rfl)]
      intro K hK
      obtain ⟨v32, h32, k32⟩ := hdep ⟨12, .data⟩ (by simp) rfl _ rfl
      have q32 := k32 _ rfl
      clear k32
      rw [hT] at h32
      obtain rfl : v32 = .pointer (some ⟨g, 42, none⟩) := h32
      have f1 : w2'.cell? ⟨g, 42, none⟩ = some (.slice pa pn pc) := (hx.cell (p := ⟨g, 42, none⟩) GLT.out).trans C42.out
      rw [Array.getD_eq_getD_getElem?] at q32
      clear hsz hdep hout
      go_simp
      exact hK _ _ (Ex.refl _) (by rw [hT]; rfl)
    · rw [if_pos (by rfl)]
      intro K hK
      obtain ⟨v33, h33, k33⟩ := hdep ⟨13, .data⟩ (by simp) rfl _ rfl
      have q33 := k33 _ rfl
      clear k33
      rw [hT] at h33
      obtain rfl : v33 = .slice pa pn pc := h33
      rw [Array.getD_eq_getD_getElem?] at q33
      clear hsz hdep hout
      go_simp
      exact hK _ _ (Ex.refl _) (by rw [hT]; rfl)
    · rw [if_pos (by rfl)]
      intro K hK
      obtain ⟨v29, h29, k29⟩ := hdep ⟨9, .data⟩ (by simp) rfl _ rfl
      have q29 := k29 _ rfl
      clear k29
      rw [hT] at h29
      obtain rfl : v29 = .int .i64 t := h29
      obtain ⟨v34, h34, k34⟩ := hdep ⟨14, .data⟩ (by simp) rfl _ rfl
      have q34 := k34 _ rfl
      clear k34
      rw [hT] at h34
      obtain rfl : v34 = .int .i64 pn := h34
      exact wp_min7 _ _ rfl (t : Int) (pn : Int) q29 q34 (hK _ _ (Ex.refl _) (by rw [hT, MNV.out]; rfl))
    · rw [if_pos (by rfl)]
      intro K hK
      obtain ⟨v28, h28, k28⟩ := hdep ⟨8, .data⟩ (by simp) rfl _ rfl
      have q28 := k28 _ rfl
      clear k28
      rw [hT] at h28
      obtain rfl : v28 = .slice pa pn pc := h28
      obtain ⟨v35, h35, k35⟩ := hdep ⟨15, .data⟩ (by simp) rfl _ rfl
      have q35 := k35 _ rfl
      clear k35
      rw [hT] at h35
      obtain rfl : v35 = .int .i64 mn := h35
      rw [Array.getD_eq_getD_getElem?] at q28
      rw [Array.getD_eq_getD_getElem?] at q35
      clear hsz hdep hout
      have s0 := S0.out
      have s1 := S1.out
      have s2 := S2.out
      go_simp
      exact hK _ _ (Ex.refl _) (by rw [hT]; rfl)
    · rw [if_pos (by rfl)]
      intro K hK
      obtain ⟨v36, h36, k36⟩ := hdep ⟨16, .data⟩ (by simp) rfl _ rfl
      have q36 := k36 _ rfl
      clear k36
      rw [hT] at h36
      obtain rfl : v36 = .slice pa mn pc := h36
      rw [Array.getD_eq_getD_getElem?] at q36
      clear hsz hdep hout
      go_simp
      exact hK _ _ (Ex.refl _) (by rw [hT]; rfl)
    · rw [if_pos (by rfl)]
      intro K hK
      obtain ⟨v20, h20, k20⟩ := hdep ⟨0, .data⟩ (by simp) rfl _ rfl
      have q20 := k20 _ rfl
      clear k20
      rw [hT] at h20
      obtain rfl : v20 = .pointer (some ⟨g, 0, none⟩) := h20
      rw [Array.getD_eq_getD_getElem?] at q20
      clear hsz hdep hout
      go_simp
      exact hK _ _ (Ex.refl _) (by rw [hT]; rfl)
    · rw [if_pos (by rfl)]
      intro K hK
      obtain ⟨v38, h38, k38⟩ := hdep ⟨18, .data⟩ (by simp) rfl _ rfl
      have q38 := k38 _ rfl
      clear k38
      rw [hT] at h38
      obtain rfl : v38 = .pointer (some ⟨g, 0, none⟩) := h38
      rw [Array.getD_eq_getD_getElem?] at q38
      clear hsz hdep hout
      go_simp
      exact hK _ _ (Ex.refl _) (by rw [hT]; rfl)
    · rw [if_pos (by rfl)]
      intro K hK
      obtain ⟨v39, h39, k39⟩ := hdep ⟨19, .data⟩ (by simp) rfl _ rfl
      have q39 := k39 _ rfl
      clear k39
      rw [hT] at h39
      obtain rfl : v39 = .pointer (some ⟨g, 0, none⟩) := h39
      obtain ⟨v24, h24, k24⟩ := hdep ⟨4, .data⟩ (by simp) rfl _ rfl
      have q24 := k24 _ rfl
      clear k24
      rw [hT] at h24
      obtain rfl : v24 = .int .i64 n := h24
      rw [Array.getD_eq_getD_getElem?] at q39
      rw [Array.getD_eq_getD_getElem?] at q24
      clear hsz hdep hout
      have i0 := I0.out
      have i1 := I1.out
      have i2 := I2.out
      go_simp
      refine hK _ _ (Ex.refl _) ?_
      rw [hT]
      show _ = _
      first | rfl | (congr 3; omega) | simp [Nat.mul_comm]
  · intro a w2' hx hdef hsz hdone hout
    obtain ⟨v37, h37, k37⟩ := hdone 17 _ (by omega) rfl
    have q37 := k37 _ rfl
    clear k37
    rw [hT] at h37
    obtain rfl : v37 = .agg #[.bool true, .slice pa mn pc] := h37
    obtain ⟨v40, h40, k40⟩ := hdone 20 _ (by omega) rfl
    have q40 := k40 _ rfl
    clear k40
    rw [hT] at h40
    obtain rfl : v40 = .pointer (some ⟨g, 2 * n, none⟩) := h40
    clear hdone hT
    have hA := arr_range a.tmps 43 hsz
    change a.tmps = #[a.tmps[0]?.getD undef, a.tmps[1]?.getD undef, a.tmps[2]?.getD undef, a.tmps[3]?.getD undef, a.tmps[4]?.getD undef, a.tmps[5]?.getD undef, a.tmps[6]?.getD undef, a.tmps[7]?.getD undef, a.tmps[8]?.getD undef, a.tmps[9]?.getD undef, a.tmps[10]?.getD undef, a.tmps[11]?.getD undef, a.tmps[12]?.getD undef, a.tmps[13]?.getD undef, a.tmps[14]?.getD undef, a.tmps[15]?.getD undef, a.tmps[16]?.getD undef, a.tmps[17]?.getD undef, a.tmps[18]?.getD undef, a.tmps[19]?.getD undef, a.tmps[20]?.getD undef, a.tmps[21]?.getD undef, a.tmps[22]?.getD undef, a.tmps[23]?.getD undef, a.tmps[24]?.getD undef, a.tmps[25]?.getD undef, a.tmps[26]?.getD undef, a.tmps[27]?.getD undef, a.tmps[28]?.getD undef, a.tmps[29]?.getD undef, a.tmps[30]?.getD undef, a.tmps[31]?.getD undef, a.tmps[32]?.getD undef, a.tmps[33]?.getD undef, a.tmps[34]?.getD undef, a.tmps[35]?.getD undef, a.tmps[36]?.getD undef, a.tmps[37]?.getD undef, a.tmps[38]?.getD undef, a.tmps[39]?.getD undef, a.tmps[40]?.getD undef, a.tmps[41]?.getD undef, a.tmps[42]?.getD undef] at hA
    have e0 := hout 0 (fun i o _ h => outB_spec (by kernel_rfl) i o h)
    have e1 := hout 1 (fun i o _ h => outB_spec (by kernel_rfl) i o h)
    have e2 := hout 2 (fun i o _ h => outB_spec (by kernel_rfl) i o h)
    have e3 := hout 3 (fun i o _ h => outB_spec (by kernel_rfl) i o h)
    have e4 := hout 4 (fun i o _ h => outB_spec (by kernel_rfl) i o h)
    have e5 := hout 5 (fun i o _ h => outB_spec (by kernel_rfl) i o h)
    have e6 := hout 6 (fun i o _ h => outB_spec (by kernel_rfl) i o h)
    have e7 := hout 7 (fun i o _ h => outB_spec (by kernel_rfl) i o h)
    have e8 := hout 8 (fun i o _ h => outB_spec (by kernel_rfl) i o h)
    have e9 := hout 9 (fun i o _ h => outB_spec (by kernel_rfl) i o h)
    have e10 := hout 10 (fun i o _ h => outB_spec (by kernel_rfl) i o h)
    have e11 := hout 11 (fun i o _ h => outB_spec (by kernel_rfl) i o h)
    have e12 := hout 12 (fun i o _ h => outB_spec (by kernel_rfl) i o h)
    have e13 := hout 13 (fun i o _ h => outB_spec (by kernel_rfl) i o h)
    have e14 := hout 14 (fun i o _ h => outB_spec (by kernel_rfl) i o h)
    have e15 := hout 15 (fun i o _ h => outB_spec (by kernel_rfl) i o h)
    have e16 := hout 16 (fun i o _ h => outB_spec (by kernel_rfl) i o h)
    have e17 := hout 17 (fun i o _ h => outB_spec (by kernel_rfl) i o h)
    have e18 := hout 18 (fun i o _ h => outB_spec (by kernel_rfl) i o h)
    have e19 := hout 19 (fun i o _ h => outB_spec (by kernel_rfl) i o h)
    have e41 := hout 41 (fun i o _ h => outB_spec (by kernel_rfl) i o h)
    have e42 := hout 42 (fun i o _ h => outB_spec (by kernel_rfl) i o h)
    simp only [Array.getD_eq_getD_getElem?, List.getElem?_toArray, List.getElem?_cons_zero, List.getElem?_cons_succ, Option.getD_some] at e0 e1 e2 e3 e4 e5 e6 e7 e8 e9 e10 e11 e12 e13 e14 e15 e16 e17 e18 e19 e41 e42
    rw [e0, e1, e2, e3, e4, e5, e6, e7, e8, e9, e10, e11, e12, e13, e14, e15, e16, e17, e18, e19, e41, e42] at hA
    clear e0 e1 e2 e3 e4 e5 e6 e7 e8 e9 e10 e11 e12 e13 e14 e15 e16 e17 e18 e19 e41 e42 hout
    have hds2 : a.defers = [] := hdef
    have ea : a = ⟨a.tmps, a.defers⟩ := rfl
    rw [Array.getD_eq_getD_getElem?] at q37
    rw [Array.getD_eq_getD_getElem?] at q40
    rw [hA, hds2, q37, q40] at ea
    clear hA hds2 q37 q40 hdef
    generalize a.tmps[20]?.getD undef = y20 at ea
    generalize a.tmps[21]?.getD undef = y21 at ea
    generalize a.tmps[22]?.getD undef = y22 at ea
    generalize a.tmps[23]?.getD undef = y23 at ea
    generalize a.tmps[24]?.getD undef = y24 at ea
    generalize a.tmps[25]?.getD undef = y25 at ea
    generalize a.tmps[26]?.getD undef = y26 at ea
    generalize a.tmps[27]?.getD undef = y27 at ea
    generalize a.tmps[28]?.getD undef = y28 at ea
    generalize a.tmps[29]?.getD undef = y29 at ea
    generalize a.tmps[30]?.getD undef = y30 at ea
    generalize a.tmps[31]?.getD undef = y31 at ea
    generalize a.tmps[32]?.getD undef = y32 at ea
    generalize a.tmps[33]?.getD undef = y33 at ea
    generalize a.tmps[34]?.getD undef = y34 at ea
    generalize a.tmps[35]?.getD undef = y35 at ea
    generalize a.tmps[36]?.getD undef = y36 at ea
    generalize a.tmps[38]?.getD undef = y38 at ea
    generalize a.tmps[39]?.getD undef = y39 at ea
    clear hsz
    subst ea
    have bx : Ex w2 w2' := Ex.trans (show Ex w2 w2.drew from (Below.refl _ _).drew) hx
    unfold wpOp
    simp only [List.getElem?_toArray, List.getElem?_cons_zero, List.getElem?_cons_succ]
    rw [if_pos (by rfl)]
    left
    have BB := Lib.hid (Bk.ext HB.out bx)
    obtain ⟨p', hp'⟩ : ∃ p' : Sm.Pt, p' = ⟨d.put.ad, d.put.cap, d.put.l.take t⟩ := ⟨_, rfl⟩
    have hpvv : Value.slice pa mn pc = p'.V := by
      rw [hp', HPA.out, HPC.out]; unfold Sm.Pt.V; simp only [List.length_take]; rw [HMN.out, HPN.out]
    have hpl' : p'.l = d.put.l.take t := by rw [hp']
    rw [hpvv]
    refine wp_st69 _ _ g (2 * n) true p' rfl rfl rfl (slC d.las ++ slC d.las ++ [.int .i64 d.pend, .int .i64 d.lst, d.put.V]) BB.out (by have := I2.out; simp [L20.out]; omega) (fun w6 hd6 ho => ?_)
    rw [dk_set_now _ _ _ L20.out n I2.out] at hd6
    rw [← slC_set d.las n (true, p') (by rw [HD.out.l10]; exact I2.out)] at hd6
    have M6 := Lib.hid ((M2.out.trans (Ex.md (g := g) bx (Nat.le_of_lt GLT.out))).trans ho.md)
    have hh := HD.out
    have pin6 : p'.In w6 w6.heap.size := pt_md (by rw [hp']; exact bcut_in hh.pin t) hh.blk M6.out
    have D6 : Hid ((Dk.mk (d.las.set n (true, p')) d.las d.pend d.lst d.put).At w6 g) := Lib.hid ⟨hd6, by simp [hh.l10], hh.l10, fun i x hx => (by
      rw [List.getElem?_set] at hx
      split at hx
      · split at hx
        · obtain rfl : (true, p') = x := Option.some.inj hx
          exact pin6
        · cases hx
      · exact pt_md (hh.lin i x hx) hh.blk M6.out), fun i x hx => pt_md (hh.lin i x hx) hh.blk M6.out, pt_md hh.pin hh.blk M6.out⟩
    have SY2 := Lib.hid (SY.out w6 _ ⟨_, D6.out, rfl⟩)
    have E1 := Lib.hid (show crashC d.ct t = syncC (Dk.mk (d.las.set n (true, p')) d.las d.pend d.lst d.put).ct by
      have hc : (0 < d.ct.pend ∧ 0 < t) := ⟨HP0.out, HT0.out⟩
      unfold crashC crashN; rw [if_pos hc]
      unfold syncC Dk.ct
      simp only [ctL_set, hpl', HLN.out, Int.toNat_natCast])
    clear hd6 ho BB bx hx D6 SY hh pin6 hpvv hpl' hp' D2 C41 C42 M2 HB
    go_wp2_with fail
    refine SY2.out.mono ?_
    rintro e w7 ⟨rfl, hk7, m7⟩
    go_wp2_with fail
    go_end0
    exact ⟨rfl, by rw [E1.out]; exact hk7, M6.out.trans m7⟩
theorem crash_any (g : Nat) (t : Nat) (ht : t ≤ 1000) (c : Dc) (w : World) (h : DK w g c) (n : Nat) (hn : n < 10) (hl : c.lst = n) (hp : c.put.length ≤ 1000000) : Calls Try.prog 19 #[.pointer (some ⟨g, 0, none⟩), .int .i64 t] w (MdPost g (crashC c t) w) := by
  obtain ⟨d, hd, hc⟩ := h
  rw [← hc]
  rw [← hc] at hl hp
  by_cases hy : 0 < d.pend ∧ 0 < t
  · exact crash_yes g t ht d w hd n hn hl hy hp
  · exact crash_no g t ht d w hd hy
end Go.Proofs.Ytgoiidpcdifojaa
