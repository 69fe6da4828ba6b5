/- Sc, Sd -/
import Derived.Test.YtmjfnpmnhehnkaaXaq
namespace Go.Proofs.Ytmjfnpmnhehnkaa
open Go.RowKit
structure Rk where
  kind : Int
  shard : Int
  tw : Int
  ep : Int
  v : Vt
  ad : Option Addr
  cap : Nat
  l : List Vt
def Rk.C (x : Rk) : List Value := [.int .i64 x.kind, .int .i64 x.shard, .int .i64 x.tw, .int .u64 x.ep] ++ x.v.C ++ [.slice x.ad x.l.length x.cap]
def Rk.V (x : Rk) : Value := .agg x.C.toArray
structure Rk.In (x : Rk) (w : World) : Prop where
  kind : i64 x.kind
  shard : i64 x.shard
  tw : i64 x.tw
  ep : 0 ≤ x.ep ∧ x.ep < 18446744073709551616
  v : VI w x.v
  inn : Vp.In x.ad x.cap x.l w
  cap : x.cap ≤ 9223372036854775807
  ins : ∀ (i : Nat) (y : Vt), x.l[i]? = some y → VI w y
theorem Rk.In.ext {x : Rk} {w w' : World} (h : x.In w) (k : Ex w w') : x.In w' := { h with v := h.v.ext k, inn := h.inn.ext k, ins := fun i y hy => (h.ins i y hy).ext k }
theorem Rk.len {x : Rk} (h : x.v.Ok) : x.C.length = 47 := by unfold Rk.C; rw [List.length_append, List.length_append, Vt.len h]; rfl
theorem Rk.v_at {x : Rk} : (x.C.drop 4).take x.v.C.length = x.v.C := by
  show (x.v.C ++ [Value.slice x.ad x.l.length x.cap]).take x.v.C.length = x.v.C
  rw [List.take_left']; rfl
theorem Rk.id_at {x : Rk} (h : x.v.Ok) : (x.C.drop 4).take (Lib.byteCells x.v.id).length = Lib.byteCells x.v.id := by
  show (x.v.C ++ [Value.slice x.ad x.l.length x.cap]).take (Lib.byteCells x.v.id).length = Lib.byteCells x.v.id
  unfold Vt.C
  simp only [List.append_assoc]
  rw [List.take_left']; rfl
theorem Rk.last_at {x : Rk} (h : x.v.Ok) : x.C[46]? = some (.slice x.ad x.l.length x.cap) := by
  show ([Value.int .i64 x.kind, .int .i64 x.shard, .int .i64 x.tw, .int .u64 x.ep] ++ x.v.C ++ [Value.slice x.ad x.l.length x.cap])[46]? = _
  rw [List.getElem?_append_right (by rw [List.length_append, Vt.len h]; exact Nat.le_refl 46), List.length_append, Vt.len h]; rfl
def KB9 (w : World) (g : Nat) (x : Rk) : Prop := x.v.Ok ∧ Bk w g 39 x.C.toArray
theorem KB9.ext {w w' : World} {g : Nat} {x : Rk} (h : KB9 w g x) (k : Ex w w') : KB9 w' g x := ⟨h.1, h.2.ext k⟩
theorem KB9.cells {w : World} {g : Nat} {x : Rk} (h : KB9 w g x) : w.cell? ⟨g, 0, none⟩ = some (.int .i64 x.kind) ∧ w.cell? ⟨g, 1, none⟩ = some (.int .i64 x.shard) ∧ w.cell? ⟨g, 2, none⟩ = some (.int .i64 x.tw) ∧ w.cell? ⟨g, 3, none⟩ = some (.int .u64 x.ep) ∧ w.cell? ⟨g, 46, none⟩ = some (.slice x.ad x.l.length x.cap) :=
  ⟨(h.2.cell 0).trans rfl, (h.2.cell 1).trans rfl, (h.2.cell 2).trans rfl, (h.2.cell 3).trans rfl, (h.2.cell 46).trans (by rw [List.getElem?_toArray]; exact Rk.last_at h.1)⟩
theorem Try.sizeRk : (Try.prog.info? 39).map (·.size) = some 47 := by kernel_rfl
section
variable {o : Oper} {a : Act} {w : World} {K : Act → World → Prop} {Q : Exit → Act → World → Prop}
theorem ld_rk (x : Operand) (g : Nat) (v : Rk) (ho : o.op = .load 39 x) (ha : a.eval x = .pointer (some ⟨g, 0, none⟩)) (h : KB9 w g v) (hk : K (a.put o.dst v.V) w) : o.wp Try.prog a w K Q := by
  obtain ⟨dd, hd⟩ : ∃ d, Try.prog.underlying 39 = some d ∧ d.isRow = true := ⟨_, Try.underlying39, rfl⟩
  exact wp_ldp (C := v.C) v.C x g 0 dd ho ha h.2 (by simp) hd.1 hd.2 (by rw [Try.sizeRk, Rk.len h.1]) hk
theorem ld_rkv (x : Operand) (g : Nat) (v : Rk) (ho : o.op = .load 36 x) (ha : a.eval x = .pointer (some ⟨g, 4, none⟩)) (h : KB9 w g v) (hk : K (a.put o.dst v.v.V) w) : o.wp Try.prog a w K Q := by
  obtain ⟨dd, hd⟩ : ∃ d, Try.prog.underlying 36 = some d ∧ d.isRow = true := ⟨_, Try.underlying36, rfl⟩
  exact wp_ldp (C := v.C) v.v.C x g 4 dd ho ha h.2 Rk.v_at hd.1 hd.2 (by rw [Try.sizeVt, Vt.len h.1]) hk
theorem ld_rkid (x : Operand) (g : Nat) (v : Rk) (ho : o.op = .load 32 x) (ha : a.eval x = .pointer (some ⟨g, 4, none⟩)) (h : KB9 w g v) (hk : K (a.put o.dst (digV v.v.id)) w) : o.wp Try.prog a w K Q := by
  obtain ⟨dd, hd⟩ : ∃ d, Try.prog.underlying 32 = some d ∧ d.isRow = true := ⟨_, Try.underlying32, rfl⟩
  exact wp_ldp (C := v.C) (Lib.byteCells v.v.id) x g 4 dd ho ha h.2 (Rk.id_at h.1) hd.1 hd.2 (by rw [Try.sizeId, byteCells_len, h.1.idN]) hk
end
def BPost (P : Prop) (w : World) (e : Ending) (w' : World) : Prop := ∃ b : Bool, e = .returned (.bool b) ∧ (b = true ↔ P) ∧ Ex w w'
/-- a step of a shard -/
def Rk.step (x : Rk) : Prop := 0 ≤ x.shard ∧ x.shard < 16 ∧ 1 ≤ x.ep ∧ x.ep ≤ 1099511627776 ∧ x.v.ct = zeroVc
def Rk.keepR (x : Rk) : Prop := x.v.ct.right = true ∧ x.shard = 0 ∧ x.tw = 0 ∧ x.ep = 0 ∧ x.l.length = 0
def Rk.outR (x : Rk) : Prop := x.step ∧ 0 ≤ x.tw ∧ x.tw < 8 ∧ x.l.length = 0
def Rk.doneR (x : Rk) : Prop := x.step ∧ x.tw = 0 ∧ x.l.length = 0
set_option maxHeartbeats 8000000 in
set_option maxRecDepth 100000 in
theorem rstep_any (x : Rk) (w : World) (hx : x.In w) : Calls Try.prog 123 #[x.V] w (BPost x.step w) := by
  skip
  obtain ⟨cs, hcs⟩ : ∃ cs, cs = x.C.toArray := ⟨_, rfl⟩
  have A0 : Hid (KB9 (w.alloc (.cells cs 39)) w.heap.size x) := Hi ⟨hx.v.ok, by rw [hcs]; exact Bk.new rfl _ _⟩
  have B0 : Hid (Ex w (w.alloc (.cells cs 39))) := Hi (Ex.alloc _ _)
  rw [show (Calls Try.prog 123 #[x.V] w) = (Calls Try.prog 123 #[.agg cs] w) by rw [hcs]; rfl]
  have HX := Hi hx
  clear hcs hx
  obtain ⟨c0, c1, c2, c3, c46⟩ := A0.out.cells
  go_enter Try.func123, Try.ntmps123
  by_cases h0 : 0 ≤ x.shard
  rotate_left
  · skip
    go_wp2_with fail
    go_ret
    exact ⟨false, rfl, ⟨(fun h => by cases h), fun h => absurd h.1 (by omega)⟩, B0.out⟩
  by_cases h1 : x.shard < 16
  rotate_left
  · skip
    go_wp2_with fail
    go_ret
    exact ⟨false, rfl, ⟨(fun h => by cases h), fun h => absurd h.2.1 (by omega)⟩, B0.out⟩
  by_cases h2 : 1 ≤ x.ep
  rotate_left
  · skip
    go_wp2_with fail
    go_ret
    exact ⟨false, rfl, ⟨(fun h => by cases h), fun h => absurd h.2.2.1 (by omega)⟩, B0.out⟩
  by_cases h3 : x.ep ≤ 1099511627776
  · go_wp2_with (first | ((with_reducible refine so0 ?_ ?_); (focus rfl)) | ((with_reducible refine so4 [39, 36] ?_ ?_); (focus rfl)))
    (with_reducible refine ⟨?_⟩)
    change wpList _ _ _ _ _ (w.alloc (.cells cs 39))
    generalize hw1 : w.alloc (.cells cs 39) = w1 at *
    clear hw1
    obtain ⟨B, hB⟩ : ∃ B, B = w.heap.size := ⟨_, rfl⟩
    rw [← hB] at A0 c0 c1 c2 c3 c46 ⊢
    have HB := Hi hB
    clear hB
    (with_reducible refine at_any ?_ ?_); (focus go_simp); refine fun K0 hK => ld_rkv _ B x rfl rfl A0.out (hK _ _ ?_)
    clear hK
    go_wp2_with (first | ((with_reducible refine so0 ?_ ?_); (focus rfl)) | ((with_reducible refine so4 [39, 36] ?_ ?_); (focus rfl)))
    refine at9 (by go_simp) fun K0 hK => wp_build _ _ rfl _ built_zero (hK _ _ ?_)
    clear hK
    go_wp2_with fail
    refine (vsame_any x.v zeroVt w1 (HX.out.v.ext B0.out) ⟨zeroVt_ok, nilB_in _ _⟩).mono ?_
    rintro e w2 ⟨rfl, x2⟩
    replace B0 := Hi (Ex.trans B0.out x2)
    clear x2
    go_wp2_with fail
    go_ret
    exact ⟨decide (x.v.ct = zeroVt.ct), rfl, ⟨fun h => ⟨h0, h1, h2, h3, of_decide_eq_true h⟩, fun h => decide_eq_true h.2.2.2.2⟩, B0.out⟩
  skip
  go_wp2_with fail
  go_ret
  exact ⟨false, rfl, ⟨(fun h => by cases h), fun h => absurd h.2.2.2.1 (by omega)⟩, B0.out⟩
set_option maxHeartbeats 8000000 in
set_option maxRecDepth 100000 in
theorem rrec_keep (x : Rk) (hk : x.kind = 1) (w : World) (hx : x.In w) : Calls Try.prog 91 #[x.V] w (BPost x.keepR w) := by
  obtain ⟨cs, hcs⟩ : ∃ cs, cs = x.C.toArray := ⟨_, rfl⟩
  have A0 : Hid (KB9 (w.alloc (.cells cs 39)) w.heap.size x) := Hi ⟨hx.v.ok, by rw [hcs]; exact Bk.new rfl _ _⟩
  have B0 : Hid (Ex w (w.alloc (.cells cs 39))) := Hi (Ex.alloc _ _)
  rw [show (Calls Try.prog 91 #[x.V] w) = (Calls Try.prog 91 #[.agg cs] w) by rw [hcs]; rfl]
  have HX := Hi hx
  clear hcs hx
  obtain ⟨c0, c1, c2, c3, c46⟩ := A0.out.cells
  rw [hk] at c0
  have HK := Hi hk
  clear hk
  go_enter Try.func91, Try.ntmps91
  go_wp2_with (first | ((with_reducible refine so0 ?_ ?_); (focus rfl)) | ((with_reducible refine so4 [39, 36] ?_ ?_); (focus rfl)))
  (with_reducible refine ⟨?_⟩)
  change wpList _ _ _ _ _ (w.alloc (.cells cs 39))
  generalize hw1 : w.alloc (.cells cs 39) = w1 at *
  clear hw1
  obtain ⟨B, hB⟩ : ∃ B, B = w.heap.size := ⟨_, rfl⟩
  rw [← hB] at A0 c0 c1 c2 c3 c46 ⊢
  have HB := Hi hB
  clear hB
  (with_reducible refine at_any ?_ ?_); (focus go_simp); refine fun K0 hK => ld_rkv _ B x rfl rfl A0.out (hK _ _ ?_)
  clear hK
  go_wp2_with fail
  have HR : Hid (∃ b, b = x.v.ct.right) := Hi ⟨_, rfl⟩
  obtain ⟨b, hb⟩ := HR.out
  refine (vright_any x.v w1 (HX.out.v.ext B0.out)).mono ?_
  rintro e w2 ⟨rfl, x2⟩
  rw [← hb]
  have HBR := Hi hb
  replace A0 := Hi (A0.out.ext x2)
  replace B0 := Hi (Ex.trans B0.out x2)
  clear hb x2 HR c0 c1 c2 c3 c46
  obtain ⟨c0, c1, c2, c3, c46⟩ := A0.out.cells
  obtain ⟨n, hn⟩ : ∃ n, n = x.l.length := ⟨_, rfl⟩
  rw [← hn] at c46
  have HN := Hi hn
  clear hn
  cases b
  · skip
    go_wp2_with fail
    go_ret
    exact ⟨false, rfl, ⟨(fun h => by cases h), fun h => absurd (HBR.out.trans h.1) (by decide)⟩, B0.out⟩
  skip
  by_cases h0 : x.shard = 0
  · by_cases h1 : x.tw = 0
    · by_cases h2 : x.ep = 0
      · by_cases h3 : (n : Int) = 0
        · go_wp2_with fail
          go_ret
          exact ⟨true, rfl, ⟨fun _ => ⟨HBR.out.symm, h0, h1, h2, HN.out.symm.trans (by omega)⟩, fun _ => rfl⟩, B0.out⟩
        skip
        go_wp2_with fail
        go_ret
        exact ⟨_, rfl, ⟨(fun h => absurd (eq_of_beq h) h3), fun h => absurd (HN.out.trans h.2.2.2.2) (by omega)⟩, B0.out⟩
      skip
      go_wp2_with fail
      go_ret
      exact ⟨false, rfl, ⟨(fun h => by cases h), fun h => absurd h.2.2.2.1 (by omega)⟩, B0.out⟩
    skip
    go_wp2_with fail
    go_ret
    exact ⟨false, rfl, ⟨(fun h => by cases h), fun h => absurd h.2.2.1 (by omega)⟩, B0.out⟩
  skip
  go_wp2_with fail
  go_ret
  exact ⟨false, rfl, ⟨(fun h => by cases h), fun h => absurd h.2.1 (by omega)⟩, B0.out⟩
set_option maxHeartbeats 8000000 in
set_option maxRecDepth 100000 in
theorem rrec_out (x : Rk) (hk : x.kind = 2) (w : World) (hx : x.In w) : Calls Try.prog 91 #[x.V] w (BPost x.outR w) := by
  obtain ⟨cs, hcs⟩ : ∃ cs, cs = x.C.toArray := ⟨_, rfl⟩
  have A0 : Hid (KB9 (w.alloc (.cells cs 39)) w.heap.size x) := Hi ⟨hx.v.ok, by rw [hcs]; exact Bk.new rfl _ _⟩
  have B0 : Hid (Ex w (w.alloc (.cells cs 39))) := Hi (Ex.alloc _ _)
  rw [show (Calls Try.prog 91 #[x.V] w) = (Calls Try.prog 91 #[.agg cs] w) by rw [hcs]; rfl]
  have HX := Hi hx
  clear hcs hx
  obtain ⟨c0, c1, c2, c3, c46⟩ := A0.out.cells
  rw [hk] at c0
  have HK := Hi hk
  clear hk
  go_enter Try.func91, Try.ntmps91
  go_wp2_with (first | ((with_reducible refine so0 ?_ ?_); (focus rfl)) | ((with_reducible refine so4 [39, 36] ?_ ?_); (focus rfl)))
  (with_reducible refine ⟨?_⟩)
  change wpList _ _ _ _ _ (w.alloc (.cells cs 39))
  generalize hw1 : w.alloc (.cells cs 39) = w1 at *
  clear hw1
  obtain ⟨B, hB⟩ : ∃ B, B = w.heap.size := ⟨_, rfl⟩
  rw [← hB] at A0 c0 c1 c2 c3 c46 ⊢
  have HB := Hi hB
  clear hB
  (with_reducible refine at_any ?_ ?_); (focus go_simp); refine fun K0 hK => ld_rk _ B x rfl rfl A0.out (hK _ _ ?_)
  clear hK
  go_wp2_with fail
  refine (rstep_any x w1 (HX.out.ext B0.out)).mono ?_
  rintro e w2 ⟨b, rfl, hb, x2⟩
  have HBR := Hi hb
  replace A0 := Hi (A0.out.ext x2)
  replace B0 := Hi (Ex.trans B0.out x2)
  clear hb x2 c0 c1 c2 c3 c46
  obtain ⟨c0, c1, c2, c3, c46⟩ := A0.out.cells
  obtain ⟨n, hn⟩ : ∃ n, n = x.l.length := ⟨_, rfl⟩
  rw [← hn] at c46
  have HN := Hi hn
  clear hn
  cases b
  · skip
    go_wp2_with fail
    go_ret
    exact ⟨false, rfl, ⟨(fun h => by cases h), fun h => absurd (HBR.out.2 h.1) (by simp)⟩, B0.out⟩
  skip
  by_cases h0 : 0 ≤ x.tw
  · by_cases h1 : x.tw < 8
    · by_cases h2 : (n : Int) = 0
      · go_wp2_with fail
        go_ret
        exact ⟨true, rfl, ⟨fun _ => ⟨HBR.out.1 trivial, h0, h1, HN.out.symm.trans (by omega)⟩, fun _ => rfl⟩, B0.out⟩
      skip
      go_wp2_with fail
      go_ret
      exact ⟨_, rfl, ⟨(fun h => absurd (eq_of_beq h) h2), fun h => absurd (HN.out.trans h.2.2.2) (by omega)⟩, B0.out⟩
    skip
    go_wp2_with fail
    go_ret
    exact ⟨false, rfl, ⟨(fun h => by cases h), fun h => absurd h.2.2.1 (by omega)⟩, B0.out⟩
  skip
  go_wp2_with fail
  go_ret
  exact ⟨false, rfl, ⟨(fun h => by cases h), fun h => absurd h.2.1 (by omega)⟩, B0.out⟩
set_option maxHeartbeats 8000000 in
set_option maxRecDepth 100000 in
theorem rrec_done (x : Rk) (hk : x.kind = 4) (w : World) (hx : x.In w) : Calls Try.prog 91 #[x.V] w (BPost x.doneR w) := by
  obtain ⟨cs, hcs⟩ : ∃ cs, cs = x.C.toArray := ⟨_, rfl⟩
  have A0 : Hid (KB9 (w.alloc (.cells cs 39)) w.heap.size x) := Hi ⟨hx.v.ok, by rw [hcs]; exact Bk.new rfl _ _⟩
  have B0 : Hid (Ex w (w.alloc (.cells cs 39))) := Hi (Ex.alloc _ _)
  rw [show (Calls Try.prog 91 #[x.V] w) = (Calls Try.prog 91 #[.agg cs] w) by rw [hcs]; rfl]
  have HX := Hi hx
  clear hcs hx
  obtain ⟨c0, c1, c2, c3, c46⟩ := A0.out.cells
  rw [hk] at c0
  have HK := Hi hk
  clear hk
  go_enter Try.func91, Try.ntmps91
  go_wp2_with (first | ((with_reducible refine so0 ?_ ?_); (focus rfl)) | ((with_reducible refine so4 [39, 36] ?_ ?_); (focus rfl)))
  (with_reducible refine ⟨?_⟩)
  change wpList _ _ _ _ _ (w.alloc (.cells cs 39))
  generalize hw1 : w.alloc (.cells cs 39) = w1 at *
  clear hw1
  obtain ⟨B, hB⟩ : ∃ B, B = w.heap.size := ⟨_, rfl⟩
  rw [← hB] at A0 c0 c1 c2 c3 c46 ⊢
  have HB := Hi hB
  clear hB
  (with_reducible refine at_any ?_ ?_); (focus go_simp); refine fun K0 hK => ld_rk _ B x rfl rfl A0.out (hK _ _ ?_)
  clear hK
  go_wp2_with fail
  refine (rstep_any x w1 (HX.out.ext B0.out)).mono ?_
  rintro e w2 ⟨b, rfl, hb, x2⟩
  have HBR := Hi hb
  replace A0 := Hi (A0.out.ext x2)
  replace B0 := Hi (Ex.trans B0.out x2)
  clear hb x2 c0 c1 c2 c3 c46
  obtain ⟨c0, c1, c2, c3, c46⟩ := A0.out.cells
  obtain ⟨n, hn⟩ : ∃ n, n = x.l.length := ⟨_, rfl⟩
  rw [← hn] at c46
  have HN := Hi hn
  clear hn
  cases b
  · skip
    go_wp2_with fail
    go_ret
    exact ⟨false, rfl, ⟨(fun h => by cases h), fun h => absurd (HBR.out.2 h.1) (by simp)⟩, B0.out⟩
  skip
  by_cases h0 : x.tw = 0
  · by_cases h1 : (n : Int) = 0
    · go_wp2_with fail
      go_ret
      exact ⟨true, rfl, ⟨fun _ => ⟨HBR.out.1 trivial, h0, HN.out.symm.trans (by omega)⟩, fun _ => rfl⟩, B0.out⟩
    skip
    go_wp2_with fail
    go_ret
    exact ⟨_, rfl, ⟨(fun h => absurd (eq_of_beq h) h1), fun h => absurd (HN.out.trans h.2.2) (by omega)⟩, B0.out⟩
  skip
  go_wp2_with fail
  go_ret
  exact ⟨false, rfl, ⟨(fun h => by cases h), fun h => absurd h.2.1 (by omega)⟩, B0.out⟩
set_option maxHeartbeats 8000000 in
set_option maxRecDepth 100000 in
theorem rrec_none (x : Rk) (hk : ¬ (x.kind = 1 ∨ x.kind = 2 ∨ x.kind = 3 ∨ x.kind = 4)) (w : World) (hx : x.In w) : Calls Try.prog 91 #[x.V] w fun e w' => e = .returned (.bool false) ∧ Ex w w' := by
  obtain ⟨cs, hcs⟩ : ∃ cs, cs = x.C.toArray := ⟨_, rfl⟩
  have A0 : Hid (KB9 (w.alloc (.cells cs 39)) w.heap.size x) := Hi ⟨hx.v.ok, by rw [hcs]; exact Bk.new rfl _ _⟩
  have B0 : Hid (Ex w (w.alloc (.cells cs 39))) := Hi (Ex.alloc _ _)
  rw [show (Calls Try.prog 91 #[x.V] w) = (Calls Try.prog 91 #[.agg cs] w) by rw [hcs]; rfl]
  have HX := Hi hx
  clear hcs hx
  obtain ⟨c0, c1, c2, c3, c46⟩ := A0.out.cells
  have k1 : ¬ x.kind = 1 := fun h => hk (Or.inl h)
  have k2 : ¬ x.kind = 2 := fun h => hk (Or.inr (Or.inl h))
  have k3 : ¬ x.kind = 3 := fun h => hk (Or.inr (Or.inr (Or.inl h)))
  have k4 : ¬ x.kind = 4 := fun h => hk (Or.inr (Or.inr (Or.inr h)))
  clear hk
  go_enter Try.func91, Try.ntmps91
  go_wp2_with fail
  go_ret
  exact ⟨rfl, B0.out⟩
end Go.Proofs.Ytmjfnpmnhehnkaa
namespace Go.Proofs.Ytmjfnpmnhehnkaa
open Go.RowKit
theorem stC_seg (m n : Int) (p : Nat → Pa) (D : Nat → Option Nat) {i : Nat} (hi : i < 16) : ((stC m n p D).drop (2 + i * 4)).take (partC (p i) (D i)).length = partC (p i) (D i) := by
 have hq : (partC (p i) (D i)).length = 4 := rfl
 apply List.ext_getElem?
 intro k
 rw [hq]
 rcases Nat.lt_or_ge k 4 with h | h
 ·rw [List.getElem?_take, if_pos h, List.getElem?_drop]
  exact stC_at m n p D hi h
 rw [List.getElem?_eq_none (by rw [List.length_take]; omega), List.getElem?_eq_none (by rw [hq]; omega)]
def PB9 (w : World) (g : Nat) (p : Pa) (d : Option Nat) : Prop := Bk w g 112 (partC p d).toArray
theorem PB9.ext {w w' : World} {g : Nat} {p : Pa} {d : Option Nat} (h : PB9 w g p d) (k : Ex w w') : PB9 w' g p d := Bk.ext h k
theorem PB9.cells {w : World} {g : Nat} {p : Pa} {d : Option Nat} (h : PB9 w g p d) : w.cell? ⟨g, 0, none⟩ = some (.int .i64 p.role) ∧ w.cell? ⟨g, 1, none⟩ = some (.int .u64 p.ep) ∧ w.cell? ⟨g, 2, none⟩ = some (.int .i64 p.tw) ∧ w.cell? ⟨g, 3, none⟩ = some (.pointer (d.map fun g => ⟨g, 0, none⟩)) :=
 ⟨(Bk.cell h 0).trans rfl, (Bk.cell h 1).trans rfl, (Bk.cell h 2).trans rfl, (Bk.cell h 3).trans rfl⟩
section
variable {o : Oper} {a : Act} {w : World} {K : Act → World → Prop} {Q : Exit → Act → World → Prop}
theorem ld_spa {M : Nat} {m n : Int} {p : Nat → Pa} {D : Nat → Option Nat} (x : Operand) (i : Nat) (hi : i < 16) (ho : o.op = .load 112 x) (ha : a.eval x = .pointer (some ⟨M, 2 + i * 4, none⟩)) (h : Bk w M 115 (stC m n p D).toArray) (hk : K (a.put o.dst (.agg (partC (p i) (D i)).toArray)) w) : o.wp Try.prog a w K Q := by
 obtain ⟨dd, hd⟩ : ∃ d, Try.prog.underlying 112 = some d ∧ d.isRow = true := ⟨_, Try.underlying112, rfl⟩
 exact wp_ldp (C := stC m n p D) (partC (p i) (D i)) x M (2 + i * 4) dd ho ha h (stC_seg m n p D hi) hd.1 hd.2 (by rw [Try.sizePart]; rfl) hk
theorem ld_pb (x : Operand) (g : Nat) (p : Pa) (d : Option Nat) (ho : o.op = .load 112 x) (ha : a.eval x = .pointer (some ⟨g, 0, none⟩)) (h : PB9 w g p d) (hk : K (a.put o.dst (.agg (partC p d).toArray)) w) : o.wp Try.prog a w K Q := by
 obtain ⟨dd, hd⟩ : ∃ d, Try.prog.underlying 112 = some d ∧ d.isRow = true := ⟨_, Try.underlying112, rfl⟩
 exact wp_ldp (C := partC p d) (partC p d) x g 0 dd ho ha h (by simp) hd.1 hd.2 (by rw [Try.sizePart]; rfl) hk
theorem st_pb (x y : Operand) (g : Nat) (p : Pa) (d : Option Nat) (ho : o.op = .store 112 x y) (ha : a.eval x = .pointer (some ⟨g, 0, none⟩)) (hy : a.eval y = .agg (partC p d).toArray) {Y : Array Value} (hB : Bk w g 112 Y) (hY : Y.size = 4) (hk : ∀ w', PB9 w' g p d → Only g w w' → K (a.put o.dst undef) w') : o.wp Try.prog a w K Q := by
 have hB' : Bk w g 112 Y.toList.toArray := by simpa using hB
 refine wp_stp (partC p d) x y g 0 ho ha hy hB' (by show 0 + 4 ≤ Y.toList.length; simp [hY]) (by rw [Try.sizePart]; rfl) (part_ones p d) (fun w' h1 h2 => hk w' ?_ h2)
 have e : Y.toList.take 0 ++ partC p d ++ Y.toList.drop (0 + (partC p d).length) = partC p d := by
  rw [List.take_zero, List.nil_append, List.drop_eq_nil_of_le (by show Y.toList.length ≤ 0 + 4; simp [hY]), List.append_nil]
 rw [e] at h1; exact h1
end
/-- a block that is made (7) and stored into (8) in a drawn region -/
structure S78 (w0 : World) (t : TypeId) (k : Nat) (cs : Array Value) (l : Array Bool) (f : Nat → Value) (w : World) : Prop where
 ex : Ex w0 w
 e7 : l.getD 7 false = true → l.getD 8 false = false → ∃ g z, f 7 = .pointer (some ⟨g, 0, none⟩) ∧ w0.heap.size ≤ g ∧ z.size = k ∧ Bk w g t z
 e8 : l.getD 8 false = true → ∃ g, f 7 = .pointer (some ⟨g, 0, none⟩) ∧ w0.heap.size ≤ g ∧ Bk w g t cs
section
variable {w0 w w' : World} {t : TypeId} {k : Nat} {cs : Array Value} {l : Array Bool} {f : Nat → Value} {x : Value}
theorem S78.start (h0 : ∀ i, l.getD i false = false) (hx : Ex w0 w) : S78 w0 t k cs l f w := ⟨hx, (fun a => by rw [h0] at a; cases a), (fun a => by rw [h0] at a; cases a)⟩
theorem S78.plain (h : S78 w0 t k cs l f w) (kx : Ex w w') (i : Nat) (hi : i ≠ 7 ∧ i ≠ 8) : S78 w0 t k cs (l.setIfInBounds i true) (upd f i x) w' := by
 refine ⟨Ex.trans h.ex kx, fun a b => ?_, fun a => ?_⟩
 ·rw [gset hi.1 false] at a; rw [gset hi.2 false] at b; rw [upd_ne _ _ (Ne.symm hi.1)]
  obtain ⟨g, z, h1, h2, h3, h4⟩ := h.e7 a b
  exact ⟨g, z, h1, h2, h3, h4.ext kx⟩
 rw [gset hi.2 false] at a; rw [upd_ne _ _ (Ne.symm hi.1)]
 obtain ⟨g, h1, h2, h3⟩ := h.e8 a
 exact ⟨g, h1, h2, h3.ext kx⟩
theorem S78.s7 (h : S78 w0 t k cs l f w) (h8 : l.getD 8 false = false) (kx : Ex w w') {z : Array Value} (hz : z.size = k) (hx : x = .pointer (some ⟨w.heap.size, 0, none⟩)) (hb : Bk w' w.heap.size t z) : S78 w0 t k cs (l.setIfInBounds 7 true) (upd f 7 x) w' := by
 refine ⟨Ex.trans h.ex kx, fun _ _ => ?_, fun a => ?_⟩
 ·rw [upd_same]; exact ⟨w.heap.size, z, hx, Below.size h.ex, hz, hb⟩
 rw [gset (show (7 : Nat) ≠ 8 by decide) false, h8] at a; cases a
theorem S78.s8 (h : S78 w0 t k cs l f w) (hl : 8 < l.size) (h7 : l.getD 7 false = true) {g : Nat} (hg : f 7 = .pointer (some ⟨g, 0, none⟩)) (hge : w0.heap.size ≤ g) (ho : Only g w w') (hb : Bk w' g t cs) : S78 w0 t k cs (l.setIfInBounds 8 true) (upd f 8 x) w' := by
 refine ⟨ho.below w0.heap.size hge w0 h.ex, fun _ b => ?_, fun _ => ?_⟩
 ·rw [set_new hl] at b; cases b
 rw [upd_ne _ _ (show (7 : Nat) ≠ 8 by decide)]; exact ⟨g, hg, hge, hb⟩
end
def heldE (p : Pa) : Int := if p.role = 0 then 26 else if p.role = 2 then 27 else 0
set_option maxHeartbeats 8000000 in
set_option maxRecDepth 100000 in
theorem held_any (p : Pa) (d : Option Nat) (w : World) : Calls Try.prog 125 #[.agg (partC p d).toArray] w fun e w' => e = .returned (.int .i64 (heldE p)) ∧ Ex w w' := by
 obtain ⟨cs, hcs⟩ : ∃ cs, cs = (partC p d).toArray := ⟨_, rfl⟩
 have A0 : PB9 (w.alloc (.cells cs 112)) w.heap.size p d := by rw [hcs]; exact Bk.new rfl _ _
 have B0 : Hid (Ex w (w.alloc (.cells cs 112))) := Hi (Ex.alloc _ _)
 rw [← hcs]
 obtain ⟨c0, _, _, _⟩ := A0.cells
 clear A0 hcs
 unfold heldE
 by_cases h0 : p.role = 0
 ·rw [if_pos h0]
  go_enter Try.func125, Try.ntmps125
  go_wp2_with fail
  go_ret
  exact ⟨rfl, B0.out⟩
 rw [if_neg h0]
 by_cases h2 : p.role = 2
 ·rw [if_pos h2]
  go_enter Try.func125, Try.ntmps125
  go_wp2_with fail
  go_ret
  exact ⟨rfl, B0.out⟩
 rw [if_neg h2]
 go_enter Try.func125, Try.ntmps125
 go_wp2_with fail
 go_ret
 exact ⟨rfl, B0.out⟩
set_option maxHeartbeats 8000000 in
set_option maxRecDepth 100000 in
theorem role_any (B M : Nat) (m n : Int) (p : Nat → Pa) (D : Nat → Nat) (r : Nat → Value) (v : Nat → List Vt) (i : Nat) (hi : i < 16) (w : World) (h : SS w B M m n p D r v) : Calls Try.prog 18 #[.pointer (some ⟨M, 0, none⟩), .int .i64 i] w fun e w' => e = .returned (.tuple #[.int .i64 (p i).role, .int .u64 (p i).ep, .int .i64 (p i).tw]) ∧ Ex w w' := by
 have HS := Hi h
 have q0 : (0 : Int) ≤ (i : Int) := by omega
 have q1 : (i : Int) < 16 := by omega
 have HB := Hi (isshard_any (i : Int) w)
 rw [decide_eq_true (And.intro q0 q1)] at HB
 clear h
 go_enter Try.func18, Try.ntmps18
 go_wp2_with fail
 refine HB.out.mono ?_
 rintro e w2 ⟨rfl, rfl⟩
 clear HB
 go_wp2_with (first | ((with_reducible refine so0 ?_ ?_); (focus rfl)) | ((with_reducible refine so4 [112, 1000 + 112] ?_ ?_); (focus rfl)))
 refine at9 (by go_simp) fun K0 hK => ld_spa _ i hi rfl rfl HS.out.blk (hK _ _ ?_)
 clear hK
 go_wp2_with (first | ((with_reducible refine so0 ?_ ?_); (focus rfl)) | ((with_reducible refine so4 [112, 1000 + 112] ?_ ?_); (focus rfl)))
 refine at9 (by go_simp) fun K0 hK => st_pb _ _ w.heap.size (p i) (some (D i)) rfl rfl rfl (Bk.new rfl _ _) (by rfl) (fun w3 hd ho => hK _ _ ?_)
 clear hK
 have x3 : Ex w w3 := ho.below w.heap.size (Nat.le_refl _) w (Ex.alloc w _)
 obtain ⟨g, hg⟩ : ∃ g, g = w.heap.size := ⟨_, rfl⟩
 rw [← hg] at hd ⊢
 have HD := Hi hd
 have X3 := Hi x3
 clear hd ho hg x3 HS
 go_wp2_with fail
 have hS0 : ∀ (listed : Array Bool) (f : Nat → Value), (∀ i, listed.getD i false = false) → Ex w3 w3.drew := fun _ _ _ => (Below.refl w3.heap.size w3).drew
 obtain ⟨T, hT⟩ : ∃ T : List (Value → Prop), T = [(fun zz => zz = .pointer (some ⟨g, 0, none⟩)), (fun zz => zz = .int .i64 (p i).role), (fun zz => zz = .pointer (some ⟨g, 1, none⟩)), (fun zz => zz = .int .u64 (p i).ep), (fun zz => zz = .pointer (some ⟨g, 2, none⟩)), (fun zz => zz = .int .i64 (p i).tw), (fun zz => zz = .int .i64 (p i).role), (fun zz => zz = .int .u64 (p i).ep), (fun zz => zz = .int .i64 (p i).tw)] := ⟨_, rfl⟩
 refine wp_region_gen (JS T ([] : List (Nat × Nat)) (fun _ _ wq => Ex w3 wq)) (by kernel_rfl) (by kernel_rfl) (by kernel_rfl) (fitB_spec (by kernel_rfl)) (fun listed f h => JS.start listed f h (hS0 listed f h)) ?_ ?_
 ·intro i o ho
  have hi : i < 9 := (Array.getElem?_eq_some_iff.1 ho).1
  have hi' : i = 0 ∨ i = 1 ∨ i = 2 ∨ i = 3 ∨ i = 4 ∨ i = 5 ∨ i = 6 ∨ i = 7 ∨ i = 8 := by omega
  clear hi
  rcases hi' with rfl | rfl | rfl | rfl | rfl | rfl | rfl | rfl | rfl
  all_goals (simp only [List.getElem?_toArray, List.getElem?_cons_zero, List.getElem?_cons_succ, Option.some.injEq] at ho; subst ho; intro listed f a w4 hJ hsz hls hun hdep hout hlat; first | (rw [if_pos (by rfl)]; intro K hK) | skip)
  ·have q7 := hout 7 (outB_spec (by kernel_rfl))
   rw [Array.getD_eq_getD_getElem?] at q7
   clear hsz hdep hout hlat
   go_simp
   exact hK _ _ (hJ.nx hls hT rfl (by first | rfl | exact congrArg (Value.int .i64) (by omega) | exact congrArg (Value.int .i64) (by rw [IntKind.wrap_i64]; omega) | exact congrArg Value.bool (decide_eq_false (by omega)) | exact congrArg Value.bool (decide_eq_true (by omega)) | exact congrArg (Value.int .u64) (by omega)) hJ.st (no_head (by decide)))
  ·have q17 := hJ.iq hT (hdep ⟨0, .data⟩ (by simp) rfl) rfl _ rfl _ rfl
   have c9 := (HD.out.ext hJ.st).cells.1
   clear hsz hdep hout hlat
   go_simp
   exact hK _ _ (hJ.nx hls hT rfl rfl hJ.st (no_head (by decide)))
  ·have q7 := hout 7 (outB_spec (by kernel_rfl))
   rw [Array.getD_eq_getD_getElem?] at q7
   clear hsz hdep hout hlat
   go_simp
   exact hK _ _ (hJ.nx hls hT rfl (by first | rfl | exact congrArg (Value.int .i64) (by omega) | exact congrArg (Value.int .i64) (by rw [IntKind.wrap_i64]; omega) | exact congrArg Value.bool (decide_eq_false (by omega)) | exact congrArg Value.bool (decide_eq_true (by omega)) | exact congrArg (Value.int .u64) (by omega)) hJ.st (no_head (by decide)))
  ·have q19 := hJ.iq hT (hdep ⟨2, .data⟩ (by simp) rfl) rfl _ rfl _ rfl
   have c9 := (HD.out.ext hJ.st).cells.2.1
   clear hsz hdep hout hlat
   go_simp
   exact hK _ _ (hJ.nx hls hT rfl rfl hJ.st (no_head (by decide)))
  ·have q7 := hout 7 (outB_spec (by kernel_rfl))
   rw [Array.getD_eq_getD_getElem?] at q7
   clear hsz hdep hout hlat
   go_simp
   exact hK _ _ (hJ.nx hls hT rfl (by first | rfl | exact congrArg (Value.int .i64) (by omega) | exact congrArg (Value.int .i64) (by rw [IntKind.wrap_i64]; omega) | exact congrArg Value.bool (decide_eq_false (by omega)) | exact congrArg Value.bool (decide_eq_true (by omega)) | exact congrArg (Value.int .u64) (by omega)) hJ.st (no_head (by decide)))
  ·have q21 := hJ.iq hT (hdep ⟨4, .data⟩ (by simp) rfl) rfl _ rfl _ rfl
   have c9 := (HD.out.ext hJ.st).cells.2.2.1
   clear hsz hdep hout hlat
   go_simp
   exact hK _ _ (hJ.nx hls hT rfl rfl hJ.st (no_head (by decide)))
  ·have q18 := hJ.iq hT (hdep ⟨1, .data⟩ (by simp) rfl) rfl _ rfl _ rfl
   clear hsz hdep hout hlat
   go_simp
   exact hK _ _ (hJ.nx hls hT rfl (by first | rfl | exact congrArg (Value.int .i64) (by omega) | exact congrArg (Value.int .i64) (by rw [IntKind.wrap_i64]; omega) | exact congrArg Value.bool (decide_eq_false (by omega)) | exact congrArg Value.bool (decide_eq_true (by omega)) | exact congrArg (Value.int .u64) (by omega)) hJ.st (no_head (by decide)))
  ·have q20 := hJ.iq hT (hdep ⟨3, .data⟩ (by simp) rfl) rfl _ rfl _ rfl
   clear hsz hdep hout hlat
   go_simp
   exact hK _ _ (hJ.nx hls hT rfl (by first | rfl | exact congrArg (Value.int .i64) (by omega) | exact congrArg (Value.int .i64) (by rw [IntKind.wrap_i64]; omega) | exact congrArg Value.bool (decide_eq_false (by omega)) | exact congrArg Value.bool (decide_eq_true (by omega)) | exact congrArg (Value.int .u64) (by omega)) hJ.st (no_head (by decide)))
  have q22 := hJ.iq hT (hdep ⟨5, .data⟩ (by simp) rfl) rfl _ rfl _ rfl
  clear hsz hdep hout hlat
  go_simp
  exact hK _ _ (hJ.nx hls hT rfl (by first | rfl | exact congrArg (Value.int .i64) (by omega) | exact congrArg (Value.int .i64) (by rw [IntKind.wrap_i64]; omega) | exact congrArg Value.bool (decide_eq_false (by omega)) | exact congrArg Value.bool (decide_eq_true (by omega)) | exact congrArg (Value.int .u64) (by omega)) hJ.st (no_head (by decide)))
 intro listed f w4 hall hJ
 have f6 : f 6 = .int .i64 (p i).role := by
  have h := hJ.vals 6 (hall 6 (by simp))
  rw [hT] at h; exact h
 have f7 : f 7 = .int .u64 (p i).ep := by
  have h := hJ.vals 7 (hall 7 (by simp))
  rw [hT] at h; exact h
 have f8 : f 8 = .int .i64 (p i).tw := by
  have h := hJ.vals 8 (hall 8 (by simp))
  rw [hT] at h; exact h
 have hst := hJ.st
 simp only [putAll, Act.put, List.setIfInBounds_toArray, List.set_cons_zero, List.set_cons_succ, Nat.zero_add, Nat.reduceAdd]
 have X4 : Hid (Ex w w4) := Hi (Ex.trans X3.out hst)
 clear hst hS0
 rw [f6, f7, f8]
 clear f6 f7 f8
 clear hJ hall hT
 go_wp2_with fail
 exact bodyPost_ret (results_tmp3 rfl _ _ _) rfl ⟨rfl, X4.out⟩
set_option maxHeartbeats 8000000 in
set_option maxRecDepth 100000 in
theorem svaults_any (B M : Nat) (m n : Int) (p : Nat → Pa) (D : Nat → Nat) (r : Nat → Value) (v : Nat → List Vt) (i : Nat) (hi : i < 16) (w : World) (h : SS w B M m n p D r v) : Calls Try.prog 26 #[.pointer (some ⟨M, 0, none⟩), .int .i64 i] w (RowPost ((v i).map Vt.ct) w) := by
 have HS := Hi h
 have q0 : (0 : Int) ≤ (i : Int) := by omega
 have q1 : (i : Int) < 16 := by omega
 have HB := Hi (isshard_any (i : Int) w)
 rw [decide_eq_true (And.intro q0 q1)] at HB
 have c3 := (HS.out.cells hi).2.2.2
 clear h
 go_enter Try.func26, Try.ntmps26
 go_wp2_with fail
 refine HB.out.mono ?_
 rintro e w2 ⟨rfl, rfl⟩
 clear HB
 go_wp2_with fail
 refine (tall_any (D i) (r i) (v i) w (HS.out.ts.tb i hi)).mono ?_
 rintro e w2 ⟨x, ys, rfl, h1, h2, x2⟩
 have HR : Hid (RowPost ((v i).map Vt.ct) w (.returned x) w2) := Hi ⟨x, ys, rfl, h1, h2, x2⟩
 clear h1 h2 x2 c3
 go_wp2_with fail
 go_ret
 exact HR.out
end Go.Proofs.Ytmjfnpmnhehnkaa
