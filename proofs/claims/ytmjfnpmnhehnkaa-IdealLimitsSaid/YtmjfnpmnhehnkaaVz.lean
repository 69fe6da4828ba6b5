/- keep.D; append to an empty row -/
import Derived.Test.YtmjfnpmnhehnkaaVf
import Derived.Test.YtmjfnpmnhehnkaaFlT
namespace Go.Proofs.Ytmjfnpmnhehnkaa
open Go.RowKit
def DigPost (n : Nat) (w : World) (e : Ending) (w' : World) : Prop := ∃ d : List UInt8, e = .returned (digV d) ∧ d.length = n ∧ Ex w w'
theorem u8_of (a : Int) : ∃ x : UInt8, (x.toNat : Int) = a % 256 := by
  refine ⟨UInt8.ofNat (a % 256).toNat, ?_⟩
  rw [UInt8.toNat_ofNat_of_lt' (by have := Int.emod_lt_of_pos a (show (0:Int) < 256 by decide); have := Int.emod_nonneg a (show (256:Int) ≠ 0 by decide); show (a % 256).toNat < 256; omega)]
  have := Int.emod_nonneg a (show (256:Int) ≠ 0 by decide)
  omega
theorem built_d (x y : UInt8) : Try.prog.built 34 [(0, .int .u8 x.toNat), (1, .int .u8 y.toNat), (2, .int .u8 3)] = some (Lib.byteCells [x, y, 3, 0, 0, 0, 0, 0, 0, 0, 0, 0, 0, 0, 0, 0]).toArray := by kernel_rfl
theorem st_new {o : Oper} {a : Act} {w : World} {K : Act → World → Prop} {Q : Exit → Act → World → Prop} {ty : TypeId} (x y : Operand) (g : Nat) (L : List UInt8) (C : Array Value) (ho : o.op = .store ty x y) (ha : a.eval x = .pointer (some ⟨g, 0, none⟩)) (hy : a.eval y = digV L) (hB : Bk w g ty C) (hC : C.size = L.length)
    (hs : (Try.prog.info? ty).map (·.size) = some L.length) (hk : ∀ w', Bk w' g ty (Lib.byteCells L).toArray → Only g w w' → K (a.put o.dst undef) w') : o.wp Try.prog a w K Q := by
  have hB' : Bk w g ty C.toList.toArray := by simpa using hB
  refine wp_stp (Lib.byteCells L) x y g 0 ho ha hy hB' (by rw [byteCells_len]; simp; omega) (by rw [byteCells_len]; exact hs) (bytes_one L) (fun w' h1 h2 => hk w' ?_ h2)
  have e : C.toList.take 0 ++ Lib.byteCells L ++ C.toList.drop (0 + (Lib.byteCells L).length) = Lib.byteCells L := by
    rw [List.take_zero, List.nil_append, List.drop_eq_nil_of_le (by rw [byteCells_len]; simp; omega), List.append_nil]
  rw [e] at h1; exact h1
theorem res_dig {fn : Func} {a : Tmp} {ty : TypeId} (h : fn.results = #[.cell a ty]) (tmps : Array Value) (w : World) (g : Nat) (ha : tmps.getD a undef = .pointer (some ⟨g, 0, none⟩)) {L : List UInt8} (hB : Bk w g ty (Lib.byteCells L).toArray) {dd : TypeDesc} (hu : Try.prog.underlying ty = some dd) (hr : dd.isRow = true) (hs : (Try.prog.info? ty).map (·.size) = some L.length) :
    (results fn tmps).run Try.prog w = .ok (digV L) w := res_row1 h tmps w g ha hB hu hr (by rw [byteCells_len]; exact hs)
set_option maxHeartbeats 4000000 in
set_option maxRecDepth 100000 in
theorem d_any (n : Int) (hn : -9223372036854775808 ≤ n ∧ n ≤ 9223372036854775807) (w : World) : Calls Try.prog 68 #[.int .i64 n] w (DigPost 16 w) := by
  obtain ⟨n0, n1⟩ := hn
  obtain ⟨x, hx⟩ := u8_of n
  have HX := Lib.hid hx
  obtain ⟨y, hy⟩ := u8_of (n / 256)
  have HY := Lib.hid hy
  clear hx hy
  go_enter Try.func68, Try.ntmps68
  go_wp2_with (first | ((with_reducible refine stop_big ?_ ?_); (focus rfl)) | (with_reducible refine stop_build ?_) | ((with_reducible refine stop_beq ?_ ?_); (focus rfl)))
  (with_reducible refine ⟨?_⟩); (with_reducible refine at_any ?_ ?_); (focus go_simp); refine fun K0 hK => wp_build _ _ rfl _ ((show Try.prog.built 34 [(0, .int .u8 (n % 256)), (1, .int .u8 (n / 256 % 256)), (2, .int .u8 3)] = some (Lib.byteCells [x, y, 3, 0, 0, 0, 0, 0, 0, 0, 0, 0, 0, 0, 0, 0]).toArray from by rw [← HX.out, ← HY.out]; exact built_d x y)) (hK _ _ ?_)
  clear hK
  go_wp2_with (first | ((with_reducible refine stop_big ?_ ?_); (focus rfl)) | (with_reducible refine stop_build ?_) | ((with_reducible refine stop_beq ?_ ?_); (focus rfl)))
  (with_reducible refine ⟨?_⟩); (with_reducible refine at_any ?_ ?_); (focus go_simp); refine fun K0 hK => st_new _ _ w.heap.size [x, y, 3, 0, 0, 0, 0, 0, 0, 0, 0, 0, 0, 0, 0, 0] _ rfl rfl rfl (Bk.new rfl _ _) rfl Try.sizeDig (fun w3 hd ho => hK _ _ ?_)
  clear hK
  have X := ho.below w.heap.size (Nat.le_refl _) w (Ex.alloc w _)
  clear ho
  go_wp2_with fail
  exact bodyPost_ret (res_dig rfl _ _ w.heap.size rfl hd Try.underlying34 rfl Try.sizeDig) rfl ⟨_, rfl, rfl, X⟩
def i64 (n : Int) : Prop := -9223372036854775808 ≤ n ∧ n ≤ 9223372036854775807
theorem wp_app_emp {o : Oper} {a : Act} {w : World} {K : Act → World → Prop} {Q : Exit → Act → World → Prop} (s x : Operand)
    (hop : o.op = .call { callee := .builtin .append, args := #[s, x], argTypes := #[25, 25] }) (B g : Nat) (q : Pt) (hs : a.eval s = .slice (some ⟨g, 0, none⟩) 0 0) (hx : a.eval x = q.V)
    (hB : B ≤ g) (hb : Bk w g 5 #[]) (hBw : B ≤ w.heap.size) (hq : q.In w w.heap.size) (hN : q.l.length ≤ 100000000000000)
    (h : ∀ v' w', ownU w' B v' q.l → Ex w w' → K (a.put o.dst v') w') : o.wp Try.prog a w K Q := by
  obtain ⟨i0, hi0, hz0, hz1, hz2⟩ := info_parts sm_u8
  have key : ∃ v' w', (Builtin.append_ #[25, 25] o.type #[.slice (some ⟨g, 0, none⟩) 0 0, q.V]).run Try.prog w = .ok v' w' ∧ ownU w' B v' q.l ∧ Ex w w' := by
    have ow : ownU w B (.slice (some ⟨g, 0, none⟩) 0 0) [] := ⟨rfl, .inr ⟨g, 0, #[], rfl, hB, hb, Nat.le_refl _, Nat.zero_le _, rfl, rfl⟩⟩
    by_cases hq0 : 0 < q.l.length
    · obtain ⟨aq, hqa, hqc⟩ := hq.cells hq0
      unfold Pt.V
      rw [hqa]
      obtain ⟨v', w', hrun, r1, r2⟩ := run_append_arg_grows (P := Try.prog) w 25 o.type 5 i0 _ 1 1 Try.underlying25 hi0 hz0 hz1 hz2 rfl (by omega) ⟨g, 0, none⟩ 0 0 [] (by simp) (fun j u hu => by simp at hu) aq q.l.length q.cap (Lib.byteCells q.l) (by simp [Lib.byteCells]) hqc (by omega) (by unfold maxLen; omega) (by omega)
      refine ⟨v', w', hrun, ?_, (Below.refl _ _).grown r2 (Nat.le_refl _) (fun k hk => by cases hk)⟩
      have r1 : ownU w' w.heap.size v' q.l := by
        unfold ownU
        simpa using r1
      exact rown_less r1 hBw
    · have hz : q.l = [] := List.eq_nil_of_length_eq_zero (by omega)
      refine ⟨.slice (some ⟨g, 0, none⟩) 0 0, w, ?_, by rw [hz]; exact ow, Ex.refl _⟩
      unfold Pt.V
      rw [hz]
      cases hqa : q.ad with
      | none =>
        rw [hq.nil hqa]
        exact run_append_owned_none w B 25 o.type 5 i0 1 Try.underlying25 hi0 _ _ _ ow
      | some aq => simp [Builtin.append_, run_underlying Try.underlying25, sizeOf, typeInfo, hi0, Builtin.lenOf, Builtin.firstCells, storeCells, loadCells, loadCellsFrom]
  obtain ⟨v', w', hrun, r1, r2⟩ := key
  unfold Oper.wp
  simp [execOp, hop, resolve, invoke, builtin, hs, hx, hrun, Result.andThen]
  exact h v' w' r1 r2
end Go.Proofs.Ytmjfnpmnhehnkaa
