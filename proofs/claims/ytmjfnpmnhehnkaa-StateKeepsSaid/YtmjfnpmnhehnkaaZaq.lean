/- Sc -/
import Derived.Test.YtmjfnpmnhehnkaaZap
namespace Go.Proofs.Ytmjfnpmnhehnkaa
open Go.RowKit
structure Rk where
  kind : Int
  shard : Int
  tw : Int
  ep : Int
  v : Vt
  ad : Option Addr
  cap : Nat
  l : List Vt
def Rk.C (x : Rk) : List Value := [.int .i64 x.kind, .int .i64 x.shard, .int .i64 x.tw, .int .u64 x.ep] ++ x.v.C ++ [.slice x.ad x.l.length x.cap]
def Rk.V (x : Rk) : Value := .agg x.C.toArray
structure Rk.In (x : Rk) (w : World) : Prop where
  kind : i64 x.kind
  shard : i64 x.shard
  tw : i64 x.tw
  ep : 0 ≤ x.ep ∧ x.ep < 18446744073709551616
  v : VI w x.v
  inn : Vp.In x.ad x.cap x.l w
  cap : x.cap ≤ 9223372036854775807
  ins : ∀ (i : Nat) (y : Vt), x.l[i]? = some y → VI w y
theorem Rk.In.ext {x : Rk} {w w' : World} (h : x.In w) (k : Ex w w') : x.In w' := { h with v := h.v.ext k, inn := h.inn.ext k, ins := fun i y hy => (h.ins i y hy).ext k }
theorem Rk.len {x : Rk} (h : x.v.Ok) : x.C.length = 47 := by unfold Rk.C; rw [List.length_append, List.length_append, Vt.len h]; rfl
theorem Rk.v_at {x : Rk} : (x.C.drop 4).take x.v.C.length = x.v.C := by
  show (x.v.C ++ [Value.slice x.ad x.l.length x.cap]).take x.v.C.length = x.v.C
  rw [List.take_left']; rfl
theorem Rk.id_at {x : Rk} (h : x.v.Ok) : (x.C.drop 4).take (Lib.byteCells x.v.id).length = Lib.byteCells x.v.id := by
  show (x.v.C ++ [Value.slice x.ad x.l.length x.cap]).take (Lib.byteCells x.v.id).length = Lib.byteCells x.v.id
  unfold Vt.C
  simp only [List.append_assoc]
  rw [List.take_left']; rfl
theorem Rk.last_at {x : Rk} (h : x.v.Ok) : x.C[46]? = some (.slice x.ad x.l.length x.cap) := by
  show ([Value.int .i64 x.kind, .int .i64 x.shard, .int .i64 x.tw, .int .u64 x.ep] ++ x.v.C ++ [Value.slice x.ad x.l.length x.cap])[46]? = _
  rw [List.getElem?_append_right (by rw [List.length_append, Vt.len h]; exact Nat.le_refl 46), List.length_append, Vt.len h]; rfl
def KB9 (w : World) (g : Nat) (x : Rk) : Prop := x.v.Ok ∧ Bk w g 39 x.C.toArray
theorem KB9.ext {w w' : World} {g : Nat} {x : Rk} (h : KB9 w g x) (k : Ex w w') : KB9 w' g x := ⟨h.1, h.2.ext k⟩
theorem KB9.cells {w : World} {g : Nat} {x : Rk} (h : KB9 w g x) : w.cell? ⟨g, 0, none⟩ = some (.int .i64 x.kind) ∧ w.cell? ⟨g, 1, none⟩ = some (.int .i64 x.shard) ∧ w.cell? ⟨g, 2, none⟩ = some (.int .i64 x.tw) ∧ w.cell? ⟨g, 3, none⟩ = some (.int .u64 x.ep) ∧ w.cell? ⟨g, 46, none⟩ = some (.slice x.ad x.l.length x.cap) :=
  ⟨(h.2.cell 0).trans rfl, (h.2.cell 1).trans rfl, (h.2.cell 2).trans rfl, (h.2.cell 3).trans rfl, (h.2.cell 46).trans (by rw [List.getElem?_toArray]; exact Rk.last_at h.1)⟩
theorem Try.sizeRk : (Try.prog.info? 39).map (·.size) = some 47 := by kernel_rfl
section
variable {o : Oper} {a : Act} {w : World} {K : Act → World → Prop} {Q : Exit → Act → World → Prop}
theorem ld_rk (x : Operand) (g : Nat) (v : Rk) (ho : o.op = .load 39 x) (ha : a.eval x = .pointer (some ⟨g, 0, none⟩)) (h : KB9 w g v) (hk : K (a.put o.dst v.V) w) : o.wp Try.prog a w K Q := by
  obtain ⟨dd, hd⟩ : ∃ d, Try.prog.underlying 39 = some d ∧ d.isRow = true := ⟨_, Try.underlying39, rfl⟩
  exact wp_ldp (C := v.C) v.C x g 0 dd ho ha h.2 (by simp) hd.1 hd.2 (by rw [Try.sizeRk, Rk.len h.1]) hk
theorem ld_rkv (x : Operand) (g : Nat) (v : Rk) (ho : o.op = .load 36 x) (ha : a.eval x = .pointer (some ⟨g, 4, none⟩)) (h : KB9 w g v) (hk : K (a.put o.dst v.v.V) w) : o.wp Try.prog a w K Q := by
  obtain ⟨dd, hd⟩ : ∃ d, Try.prog.underlying 36 = some d ∧ d.isRow = true := ⟨_, Try.underlying36, rfl⟩
  exact wp_ldp (C := v.C) v.v.C x g 4 dd ho ha h.2 Rk.v_at hd.1 hd.2 (by rw [Try.sizeVt, Vt.len h.1]) hk
theorem ld_rkid (x : Operand) (g : Nat) (v : Rk) (ho : o.op = .load 32 x) (ha : a.eval x = .pointer (some ⟨g, 4, none⟩)) (h : KB9 w g v) (hk : K (a.put o.dst (digV v.v.id)) w) : o.wp Try.prog a w K Q := by
  obtain ⟨dd, hd⟩ : ∃ d, Try.prog.underlying 32 = some d ∧ d.isRow = true := ⟨_, Try.underlying32, rfl⟩
  exact wp_ldp (C := v.C) (Lib.byteCells v.v.id) x g 4 dd ho ha h.2 (Rk.id_at h.1) hd.1 hd.2 (by rw [Try.sizeId, byteCells_len, h.1.idN]) hk
end
def BPost (P : Prop) (w : World) (e : Ending) (w' : World) : Prop := ∃ b : Bool, e = .returned (.bool b) ∧ (b = true ↔ P) ∧ Ex w w'
/-- a step of a shard -/
def Rk.step (x : Rk) : Prop := 0 ≤ x.shard ∧ x.shard < 16 ∧ 1 ≤ x.ep ∧ x.ep ≤ 1099511627776 ∧ x.v.ct = zeroVc
def Rk.keepR (x : Rk) : Prop := x.v.ct.right = true ∧ x.shard = 0 ∧ x.tw = 0 ∧ x.ep = 0 ∧ x.l.length = 0
def Rk.doneR (x : Rk) : Prop := x.step ∧ x.tw = 0 ∧ x.l.length = 0
set_option maxHeartbeats 8000000 in
set_option maxRecDepth 100000 in
theorem rstep_any (x : Rk) (w : World) (hx : x.In w) : Calls Try.prog 123 #[x.V] w (BPost x.step w) := by
  skip
  obtain ⟨cs, hcs⟩ : ∃ cs, cs = x.C.toArray := ⟨_, rfl⟩
  have A0 : Hid (KB9 (w.alloc (.cells cs 39)) w.heap.size x) := Hi ⟨hx.v.ok, by rw [hcs]; exact Bk.new rfl _ _⟩
  have B0 : Hid (Ex w (w.alloc (.cells cs 39))) := Hi (Ex.alloc _ _)
  rw [show (Calls Try.prog 123 #[x.V] w) = (Calls Try.prog 123 #[.agg cs] w) by rw [hcs]; rfl]
  have HX := Hi hx
  clear hcs hx
  obtain ⟨c0, c1, c2, c3, c46⟩ := A0.out.cells
  go_enter Try.func123, Try.ntmps123
  by_cases h0 : 0 ≤ x.shard
  rotate_left
  · skip
    go_wp2_with fail
    go_ret
    exact ⟨false, rfl, ⟨(fun h => by cases h), fun h => absurd h.1 (by omega)⟩, B0.out⟩
  by_cases h1 : x.shard < 16
  rotate_left
  · skip
    go_wp2_with fail
    go_ret
    exact ⟨false, rfl, ⟨(fun h => by cases h), fun h => absurd h.2.1 (by omega)⟩, B0.out⟩
  by_cases h2 : 1 ≤ x.ep
  rotate_left
  · skip
    go_wp2_with fail
    go_ret
    exact ⟨false, rfl, ⟨(fun h => by cases h), fun h => absurd h.2.2.1 (by omega)⟩, B0.out⟩
  by_cases h3 : x.ep ≤ 1099511627776
  · go_wp2_with (first | ((with_reducible refine so0 ?_ ?_); (focus rfl)) | ((with_reducible refine so4 [39, 36] ?_ ?_); (focus rfl)))
    (with_reducible refine ⟨?_⟩)
    change wpList _ _ _ _ _ (w.alloc (.cells cs 39))
    generalize hw1 : w.alloc (.cells cs 39) = w1 at *
    clear hw1
    obtain ⟨B, hB⟩ : ∃ B, B = w.heap.size := ⟨_, rfl⟩
    rw [← hB] at A0 c0 c1 c2 c3 c46 ⊢
    have HB := Hi hB
    clear hB
    (with_reducible refine at_any ?_ ?_); (focus go_simp); refine fun K0 hK => ld_rkv _ B x rfl rfl A0.out (hK _ _ ?_)
    clear hK
    go_wp2_with (first | ((with_reducible refine so0 ?_ ?_); (focus rfl)) | ((with_reducible refine so4 [39, 36] ?_ ?_); (focus rfl)))
    refine at9 (by go_simp) fun K0 hK => wp_build _ _ rfl _ built_zero (hK _ _ ?_)
    clear hK
    go_wp2_with fail
    refine (vsame_any x.v zeroVt w1 (HX.out.v.ext B0.out) ⟨zeroVt_ok, nilB_in _ _⟩).mono ?_
    rintro e w2 ⟨rfl, x2⟩
    replace B0 := Hi (Ex.trans B0.out x2)
    clear x2
    go_wp2_with fail
    go_ret
    exact ⟨decide (x.v.ct = zeroVt.ct), rfl, ⟨fun h => ⟨h0, h1, h2, h3, of_decide_eq_true h⟩, fun h => decide_eq_true h.2.2.2.2⟩, B0.out⟩
  skip
  go_wp2_with fail
  go_ret
  exact ⟨false, rfl, ⟨(fun h => by cases h), fun h => absurd h.2.2.2.1 (by omega)⟩, B0.out⟩
set_option maxHeartbeats 8000000 in
set_option maxRecDepth 100000 in
theorem rrec_keep (x : Rk) (hk : x.kind = 1) (w : World) (hx : x.In w) : Calls Try.prog 91 #[x.V] w (BPost x.keepR w) := by
  obtain ⟨cs, hcs⟩ : ∃ cs, cs = x.C.toArray := ⟨_, rfl⟩
  have A0 : Hid (KB9 (w.alloc (.cells cs 39)) w.heap.size x) := Hi ⟨hx.v.ok, by rw [hcs]; exact Bk.new rfl _ _⟩
  have B0 : Hid (Ex w (w.alloc (.cells cs 39))) := Hi (Ex.alloc _ _)
  rw [show (Calls Try.prog 91 #[x.V] w) = (Calls Try.prog 91 #[.agg cs] w) by rw [hcs]; rfl]
  have HX := Hi hx
  clear hcs hx
  obtain ⟨c0, c1, c2, c3, c46⟩ := A0.out.cells
  rw [hk] at c0
  have HK := Hi hk
  clear hk
  go_enter Try.func91, Try.ntmps91
  go_wp2_with (first | ((with_reducible refine so0 ?_ ?_); (focus rfl)) | ((with_reducible refine so4 [39, 36] ?_ ?_); (focus rfl)))
  (with_reducible refine ⟨?_⟩)
  change wpList _ _ _ _ _ (w.alloc (.cells cs 39))
  generalize hw1 : w.alloc (.cells cs 39) = w1 at *
  clear hw1
  obtain ⟨B, hB⟩ : ∃ B, B = w.heap.size := ⟨_, rfl⟩
  rw [← hB] at A0 c0 c1 c2 c3 c46 ⊢
  have HB := Hi hB
  clear hB
  (with_reducible refine at_any ?_ ?_); (focus go_simp); refine fun K0 hK => ld_rkv _ B x rfl rfl A0.out (hK _ _ ?_)
  clear hK
  go_wp2_with fail
  have HR : Hid (∃ b, b = x.v.ct.right) := Hi ⟨_, rfl⟩
  obtain ⟨b, hb⟩ := HR.out
  refine (vright_any x.v w1 (HX.out.v.ext B0.out)).mono ?_
  rintro e w2 ⟨rfl, x2⟩
  rw [← hb]
  have HBR := Hi hb
  replace A0 := Hi (A0.out.ext x2)
  replace B0 := Hi (Ex.trans B0.out x2)
  clear hb x2 HR c0 c1 c2 c3 c46
  obtain ⟨c0, c1, c2, c3, c46⟩ := A0.out.cells
  obtain ⟨n, hn⟩ : ∃ n, n = x.l.length := ⟨_, rfl⟩
  rw [← hn] at c46
  have HN := Hi hn
  clear hn
  cases b
  · skip
    go_wp2_with fail
    go_ret
    exact ⟨false, rfl, ⟨(fun h => by cases h), fun h => absurd (HBR.out.trans h.1) (by decide)⟩, B0.out⟩
  skip
  by_cases h0 : x.shard = 0
  · by_cases h1 : x.tw = 0
    · by_cases h2 : x.ep = 0
      · by_cases h3 : (n : Int) = 0
        · go_wp2_with fail
          go_ret
          exact ⟨true, rfl, ⟨fun _ => ⟨HBR.out.symm, h0, h1, h2, HN.out.symm.trans (by omega)⟩, fun _ => rfl⟩, B0.out⟩
        skip
        go_wp2_with fail
        go_ret
        exact ⟨_, rfl, ⟨(fun h => absurd (eq_of_beq h) h3), fun h => absurd (HN.out.trans h.2.2.2.2) (by omega)⟩, B0.out⟩
      skip
      go_wp2_with fail
      go_ret
      exact ⟨false, rfl, ⟨(fun h => by cases h), fun h => absurd h.2.2.2.1 (by omega)⟩, B0.out⟩
    skip
    go_wp2_with fail
    go_ret
    exact ⟨false, rfl, ⟨(fun h => by cases h), fun h => absurd h.2.2.1 (by omega)⟩, B0.out⟩
  skip
  go_wp2_with fail
  go_ret
  exact ⟨false, rfl, ⟨(fun h => by cases h), fun h => absurd h.2.1 (by omega)⟩, B0.out⟩
set_option maxHeartbeats 8000000 in
set_option maxRecDepth 100000 in
theorem rrec_done (x : Rk) (hk : x.kind = 4) (w : World) (hx : x.In w) : Calls Try.prog 91 #[x.V] w (BPost x.doneR w) := by
  obtain ⟨cs, hcs⟩ : ∃ cs, cs = x.C.toArray := ⟨_, rfl⟩
  have A0 : Hid (KB9 (w.alloc (.cells cs 39)) w.heap.size x) := Hi ⟨hx.v.ok, by rw [hcs]; exact Bk.new rfl _ _⟩
  have B0 : Hid (Ex w (w.alloc (.cells cs 39))) := Hi (Ex.alloc _ _)
  rw [show (Calls Try.prog 91 #[x.V] w) = (Calls Try.prog 91 #[.agg cs] w) by rw [hcs]; rfl]
  have HX := Hi hx
  clear hcs hx
  obtain ⟨c0, c1, c2, c3, c46⟩ := A0.out.cells
  rw [hk] at c0
  have HK := Hi hk
  clear hk
  go_enter Try.func91, Try.ntmps91
  go_wp2_with (first | ((with_reducible refine so0 ?_ ?_); (focus rfl)) | ((with_reducible refine so4 [39, 36] ?_ ?_); (focus rfl)))
  (with_reducible refine ⟨?_⟩)
  change wpList _ _ _ _ _ (w.alloc (.cells cs 39))
  generalize hw1 : w.alloc (.cells cs 39) = w1 at *
  clear hw1
  obtain ⟨B, hB⟩ : ∃ B, B = w.heap.size := ⟨_, rfl⟩
  rw [← hB] at A0 c0 c1 c2 c3 c46 ⊢
  have HB := Hi hB
  clear hB
  (with_reducible refine at_any ?_ ?_); (focus go_simp); refine fun K0 hK => ld_rk _ B x rfl rfl A0.out (hK _ _ ?_)
  clear hK
  go_wp2_with fail
  refine (rstep_any x w1 (HX.out.ext B0.out)).mono ?_
  rintro e w2 ⟨b, rfl, hb, x2⟩
  have HBR := Hi hb
  replace A0 := Hi (A0.out.ext x2)
  replace B0 := Hi (Ex.trans B0.out x2)
  clear hb x2 c0 c1 c2 c3 c46
  obtain ⟨c0, c1, c2, c3, c46⟩ := A0.out.cells
  obtain ⟨n, hn⟩ : ∃ n, n = x.l.length := ⟨_, rfl⟩
  rw [← hn] at c46
  have HN := Hi hn
  clear hn
  cases b
  · skip
    go_wp2_with fail
    go_ret
    exact ⟨false, rfl, ⟨(fun h => by cases h), fun h => absurd (HBR.out.2 h.1) (by simp)⟩, B0.out⟩
  skip
  by_cases h0 : x.tw = 0
  · by_cases h1 : (n : Int) = 0
    · go_wp2_with fail
      go_ret
      exact ⟨true, rfl, ⟨fun _ => ⟨HBR.out.1 trivial, h0, HN.out.symm.trans (by omega)⟩, fun _ => rfl⟩, B0.out⟩
    skip
    go_wp2_with fail
    go_ret
    exact ⟨_, rfl, ⟨(fun h => absurd (eq_of_beq h) h1), fun h => absurd (HN.out.trans h.2.2) (by omega)⟩, B0.out⟩
  skip
  go_wp2_with fail
  go_ret
  exact ⟨false, rfl, ⟨(fun h => by cases h), fun h => absurd h.2.1 (by omega)⟩, B0.out⟩
end Go.Proofs.Ytmjfnpmnhehnkaa
