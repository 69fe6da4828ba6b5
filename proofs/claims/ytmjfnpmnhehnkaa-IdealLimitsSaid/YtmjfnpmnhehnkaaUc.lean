/- ideal: All -/
import Derived.Test.YtmjfnpmnhehnkaaUb
namespace Go.Proofs.Ytmjfnpmnhehnkaa
open Go.RowKit
theorem Try.sizePa : (Try.prog.info? 138).map (·.size) = some 16 := by kernel_rfl
theorem Try.sizePt : (Try.prog.info? 110).map (·.size) = some 1 := by kernel_rfl
theorem stop_ix {P : Program} {ops : Array Oper} {rest : List Oper} {d : Option Tmp} {x y : Operand} {t t2 : TypeId} {pos : String} {af : Array Edge} {g : Option (Nat × Bool)} {a : Act} {w : World} {Q : Exit → Act → World → Prop}
    (k : Stop (wpList P ops Q ({ dst := d, op := .index t x y, type := t2, pos := pos, after := af, guard := g } :: rest) a w)) : wpList P ops Q ({ dst := d, op := .index t x y, type := t2, pos := pos, after := af, guard := g } :: rest) a w := k.go
theorem wp_ix {o : Oper} {a : Act} {w : World} {K : Act → World → Prop} {Q : Exit → Act → World → Prop} (x y : Operand) (D : Nat → Nat) (k : Nat) (hk : k < 16) (ho : o.op = .index 138 x y) (hx : a.eval x = .agg (ptrs 16 D).toArray) (hy : a.eval y = .int .i64 k) (h : K (a.put o.dst (.pointer (some ⟨D k, 0, none⟩))) w) : o.wp Try.prog a w K Q := by
  obtain ⟨i, hi, hs⟩ := Option.map_eq_some_iff.1 Try.sizePt
  have hp := ptrs_at 16 D k hk hk
  have h1 : k < (ptrs 16 D).length := by rw [ptrs_len]; exact hk
  have h2 : (ptrs 16 D)[k] = .pointer (some ⟨D k, 0, none⟩) := by rw [List.getElem?_eq_getElem h1] at hp; exact Option.some.inj hp
  have q0 : (k : Int) < 16 := by omega
  have key : (Instr.index 138 (.agg (ptrs 16 D).toArray) (.int .i64 k)).run Try.prog w = .ok (.pointer (some ⟨D k, 0, none⟩)) w := by
    simp [Instr.index, asIntOf, run_underlying Try.underlying138, run_underlying Try.underlying110, sizeOf, typeInfo, hi, hs, part, isAgg, q0, h1, h2]
    all_goals (intro h9; omega)
  unfold Oper.wp
  simp [execOp, ho, hx, hy, key, Result.andThen]
  exact h
theorem ld_pa {o : Oper} {a : Act} {w : World} {K : Act → World → Prop} {Q : Exit → Act → World → Prop} (y : Operand) (M : Nat) (D : Nat → Nat) (ho : o.op = .load 138 y) (ha : a.eval y = .pointer (some ⟨M, 0, none⟩)) (h : Bk w M 140 (ptrs 16 D).toArray) (hk : K (a.put o.dst (.agg (ptrs 16 D).toArray)) w) : o.wp Try.prog a w K Q := by
  obtain ⟨dd, hd⟩ : ∃ d, Try.prog.underlying 138 = some d ∧ d.isRow = true := ⟨_, Try.underlying138, rfl⟩
  exact wp_load_mid 138 y ho M 0 ha (ptrs 16 D) dd h.range hd.1 hd.2 (by rw [Try.sizePa, ptrs_len]) hk
/-- the vaults of the first k tables -/
def allV (v : Nat → List Vt) (k : Nat) : List Vt := (List.range k).flatMap v
theorem allV_succ (v : Nat → List Vt) (k : Nat) : allV v (k + 1) = allV v k ++ v k := by
  unfold allV; rw [List.range_succ, List.flatMap_append]; simp
theorem allV_len (v : Nat → List Vt) (h : ∀ i, i < 16 → (v i).length ≤ 4) : ∀ k, k ≤ 16 → (allV v k).length ≤ k * 4
  | 0, _ => Nat.le_refl 0
  | k + 1, hk => by rw [allV_succ, List.length_append]; have := allV_len v h k (by omega); have := h k (by omega); omega
theorem VRow.apps {w w2 : World} {B B2 : Nat} {v v' v2 : Value} {xs ys : List Vt} (h : VRow w B v xs) (k : Kt [36] B w w2) (hr : w2.ownsRow B 36 42 v' (xs.length + ys.length) (xs.flatMap Vt.C ++ ys.flatMap Vt.C)) (hy : VRow w B2 v2 ys) : VRow w2 B v' (xs ++ ys) :=
  ⟨by rw [List.length_append, List.flatMap_append]; exact hr, fun i x hx => by
    rcases List.mem_append.1 (List.mem_of_getElem? hx) with h1 | h1
    · obtain ⟨j, hj, e⟩ := List.getElem_of_mem h1
      exact (h.ins j x (by rw [List.getElem?_eq_getElem hj, e])).kt k (by decide)
    · obtain ⟨j, hj, e⟩ := List.getElem_of_mem h1
      exact (hy.ins j x (by rw [List.getElem?_eq_getElem hj, e])).kt k (by decide)⟩
set_option maxHeartbeats 4000000 in
set_option maxRecDepth 100000 in
theorem iall_any (B M : Nat) (D : Nat → Nat) (r : Nat → Value) (v : Nat → List Vt) (w : World) (h : IM w B M D r v) : Calls Try.prog 41 #[.pointer (some ⟨M, 0, none⟩)] w (RowPost ((allV v 16).map Vt.ct) w) := by
  have HIM := Lib.hid h
  have HV4 : Hid (∀ i, i < 16 → (v i).length ≤ 4) := Lib.hid (fun i hi => (h.ts.tb i hi).len)
  clear h
  go_enter Try.func41, Try.ntmps41
  go_wp2_with (first | (with_reducible refine stop_load (t := 138) ?_) | (with_reducible refine stop_app ?_))
  (with_reducible refine ⟨?_⟩); (with_reducible refine at_any ?_ ?_); (focus go_simp); refine fun K0 hK => ld_pa _ M D rfl rfl HIM.out.blk (hK _ _ ?_)
  clear hK
  obtain ⟨pa, hpa⟩ : ∃ pa, pa = (ptrs 16 D).toArray := ⟨_, rfl⟩
  rw [← hpa]
  have HPA := Lib.hid hpa
  clear hpa
  go_wp2_with (first | (with_reducible refine stop_app ?_) | (with_reducible refine stop_ix ?_))
  go_loopw [3, 10] (fun rv i wr => ∃ (k : Nat) (ys : List Vt), k ≤ 16 ∧ i = .int .i64 k ∧ Hid (VRow wr w.heap.size rv ys) ∧ Hid (ys.map Vt.ct = (allV v k).map Vt.ct) ∧ Hid (Ex w wr)) (fun _ i _ => 16 - (intOf i).toNat)
  case atStart => exact ⟨0, [], by omega, rfl, Lib.hid (VRow.nil _ _), Lib.hid rfl, Lib.hid (Ex.refl _)⟩
  case round =>
    obtain ⟨k, ys, hk, rfl, VR, HY, BW⟩ := hrel
    by_cases hlt : k < 16
    · have q0 : (0 : Int) ≤ (k : Int) := by omega
      have q1 : (k : Int) < 16 := by omega
      go_wp2_with (first | (with_reducible refine stop_app ?_) | (with_reducible refine stop_ix ?_))
      (with_reducible refine ⟨?_⟩); (with_reducible refine at_any ?_ ?_); (focus go_simp); refine fun K0 hK => wp_ix _ _ D k hlt rfl (by rw [← HPA.out]; rfl) rfl (hK _ _ ?_)
      clear hK
      go_wp2_with (first | (with_reducible refine stop_app ?_) | (with_reducible refine stop_ix ?_))
      refine (tall_any (D k) (r k) (v k) wr ((HIM.out.ts.tb k hlt).ext BW.out)).mono ?_
      rintro e w3 ⟨v2, zs, rfl, h1, h2, x3⟩
      have VZ := Lib.hid h1
      have HZ := Lib.hid h2
      replace BW := Lib.hid (Ex.trans BW.out x3)
      replace VR := Lib.hid (VR.out.ext x3)
      clear h1 h2 x3
      obtain ⟨ad, cap, e2, hnil, hcap, hcm, hrd⟩ := own_rd VZ.out.row
      subst e2
      have RX := Lib.hid (And.intro hnil (And.intro hcap hrd))
      clear hnil hcap hcm hrd
      have HL := Lib.hid (show ys.length ≤ 64 ∧ zs.length ≤ 4 from by have h1 := congrArg List.length HY.out; have h2 := congrArg List.length HZ.out; simp only [List.length_map] at h1 h2; have h3 := allV_len v HV4.out k hk; have h4 := HV4.out k hlt; omega)
      go_wp2_with (first | (with_reducible refine stop_app ?_) | (with_reducible refine stop_ix ?_))
      (with_reducible refine ⟨?_⟩); (with_reducible refine at_any ?_ ?_); (focus go_simp); refine fun K0 hK => wp_rd _ _ 37 36 zeroVt.V 42 96 rfl Try.underlying37 Try.infoVt rfl (by decide) w.heap.size ys.length _ _ rfl VR.out.row BW.out.sz' _ zs.length _ _ rfl RX.out.2.2 RX.out.2.1 RX.out.1 (vflat_one zs) (by have := HL.out; omega) (by have := HL.out; omega) (fun v5 w5 r1 r2 => hK _ _ ?_)
      clear hK
      replace BW := Lib.hid (show Ex w w5 from Below.trans (show Below w.heap.size w _ from BW.out) r2.below)
      replace VR := Lib.hid (VR.out.apps r2 r1 VZ.out)
      replace HY : Hid ((ys ++ zs).map Vt.ct = (allV v (k + 1)).map Vt.ct) := Lib.hid (by rw [allV_succ, List.map_append, List.map_append, HY.out, HZ.out])
      clear r1 r2 RX VZ HZ HL
      go_wp2_with (first | (with_reducible refine stop_app ?_) | (with_reducible refine stop_ix ?_))
      (first | (refine ⟨?_, ?measure⟩; (repeat apply Exists.intro); refine ⟨?rel, rfl⟩) | refine ⟨?rel, ?measure⟩)
      case rel => exact ⟨k + 1, ys ++ zs, by omega, by go_num, VR, HY, BW⟩
      case measure => simp [intOf]; omega
    · obtain rfl : k = 16 := by omega
      go_wp2_with fail
      go_ret
      exact ⟨_, ys, rfl, VR.out, HY.out, BW.out⟩
end Go.Proofs.Ytmjfnpmnhehnkaa
