/- Ja, Jb -/
import Derived.Test.YtmjfnpmnhehnkaaXat
namespace Go.Proofs.Ytmjfnpmnhehnkaa
open Go.RowKit
structure Rp.In (ad : Option Addr) (cap : Nat) (l : List Rt) (w : World) : Prop where
 len : l.length ≤ cap
 nil : ad = none → cap = 0
 ins : ∀ (i : Nat) (x : Rt), l[i]? = some x → RI w x
 read : 0 < l.length → ∃ a o, ad = some ⟨a, o, none⟩ ∧ a < w.heap.size ∧ ∀ (i : Nat) (x : Rt), l[i]? = some x → w.rangeAt a (o + i * 10) x.C
theorem Rp.In.ext {ad : Option Addr} {cap : Nat} {l : List Rt} {w w' : World} (h : Rp.In ad cap l w) (k : Ex w w') : Rp.In ad cap l w' :=
 ⟨h.len, h.nil, fun i x hx => (h.ins i x hx).ext k, fun h0 => by
  obtain ⟨a, o, e, hB, hc⟩ := h.read h0
  exact ⟨a, o, e, Nat.lt_of_lt_of_le hB k.sz, fun i x hx j v hv => (Below.cell (p := ⟨a, o + i * 10 + j, none⟩) k hB).trans (hc i x hx j v hv)⟩⟩
theorem Rp.In.take {ad : Option Addr} {cap : Nat} {l : List Rt} {w : World} (h : Rp.In ad cap l w) (n : Nat) : Rp.In ad cap (l.take n) w := by
 have hg : ∀ (i : Nat) (x : Rt), (l.take n)[i]? = some x → l[i]? = some x := fun i x hx => by
  rw [List.getElem?_take] at hx
  split at hx
  ·exact hx
  ·cases hx
 refine ⟨Nat.le_trans (by rw [List.length_take]; exact Nat.min_le_right _ _) h.len, h.nil, fun i x hx => h.ins i x (hg i x hx), fun h0 => ?_⟩
 obtain ⟨a, o, e, hB, hc⟩ := h.read (by rw [List.length_take] at h0; omega)
 exact ⟨a, o, e, hB, fun i x hx => hc i x (hg i x hx)⟩
theorem Rp.nil9 (w : World) : Rp.In none 0 [] w := ⟨Nat.le_refl _, fun _ => rfl, fun i x hx => by simp at hx, fun h => absurd h (Nat.lt_irrefl 0)⟩
theorem ld_rr {o : Oper} {a : Act} {w : World} {K : Act → World → Prop} {Q : Exit → Act → World → Prop} (y : Operand) (g off : Nat) (x : Rt) (hx : x.Ok) (ho : o.op = .load 83 y) (ha : a.eval y = .pointer (some ⟨g, off, none⟩)) (h : w.rangeAt g off x.C) (hk : K (a.put o.dst x.V) w) : o.wp Try.prog a w K Q := by
 obtain ⟨dd, hd⟩ : ∃ d, Try.prog.underlying 83 = some d ∧ d.isRow = true := ⟨_, Try.underlying83, rfl⟩
 exact wp_load_mid 83 y ho g off ha x.C dd h hd.1 hd.2 (by rw [Try.sizeRt, Rt.len hx]) hk
def lifeC (id : List UInt8) (g : Int) : List Value := Lib.byteCells id ++ [.int .u64 g]
def lifeV (id : List UInt8) (g : Int) : Value := .agg (lifeC id g).toArray
theorem lifeC_len {id : List UInt8} {g : Int} (h : id.length = 4) : (lifeC id g).length = 5 := by
 unfold lifeC; rw [List.length_append, byteCells_len, h]; rfl
theorem lifeC_one (id : List UInt8) (g : Int) : (lifeC id g).toArray.all (·.oneCell') = true := by
 rw [List.all_toArray, List.all_eq_true]
 intro u hu
 unfold lifeC at hu
 rcases List.mem_append.1 hu with h | h
 ·have := bytes_one id
  rw [List.all_toArray, List.all_eq_true] at this
  exact this u h
 rw [List.mem_singleton.1 h]; rfl
theorem built_life (id : List UInt8) (g : Int) (h : id.length = 4) : Try.prog.built 153 [(0, digV id), (1, .int .u64 g)] = some (lifeC id g).toArray := by
 obtain ⟨i0, i1, i2, i3, rfl⟩ := len4 h
 kernel_rfl
theorem Try.sizeLife : (Try.prog.info? 153).map (·.size) = some 5 := by kernel_rfl
theorem st_life {o : Oper} {a : Act} {w : World} {K : Act → World → Prop} {Q : Exit → Act → World → Prop} (x y : Operand) (g : Nat) (id : List UInt8) (n : Int) (hid : id.length = 4) (ho : o.op = .store 153 x y) (ha : a.eval x = .pointer (some ⟨g, 0, none⟩)) (hy : a.eval y = lifeV id n)
  {Y : Array Value} (hB : Bk w g 153 Y) (hY : Y.size = 5) (hk : ∀ w', Bk w' g 153 (lifeC id n).toArray → Only g w w' → K (a.put o.dst undef) w') : o.wp Try.prog a w K Q := by
 have hB' : Bk w g 153 Y.toList.toArray := by simpa using hB
 refine wp_stp (lifeC id n) x y g 0 ho ha hy hB' (by rw [lifeC_len hid]; simp [hY]) (by rw [Try.sizeLife, lifeC_len hid]) (lifeC_one id n) (fun w' h1 h2 => hk w' ?_ h2)
 have e : Y.toList.take 0 ++ lifeC id n ++ Y.toList.drop (0 + (lifeC id n).length) = lifeC id n := by
  rw [List.take_zero, List.nil_append, List.drop_eq_nil_of_le (by rw [lifeC_len hid]; simp [hY]), List.append_nil]
 rw [e] at h1; exact h1
theorem res_life {fn : Func} {a : Tmp} (h : fn.results = #[.cell a 153]) (tmps : Array Value) (w : World) (g : Nat) (ha : tmps.getD a undef = .pointer (some ⟨g, 0, none⟩)) (id : List UInt8) (n : Int) (hid : id.length = 4) (hB : Bk w g 153 (lifeC id n).toArray) : (results fn tmps).run Try.prog w = .ok (lifeV id n) w := by
 obtain ⟨dd, hd⟩ : ∃ d, Try.prog.underlying 153 = some d ∧ d.isRow = true := ⟨_, Try.underlying153, rfl⟩
 exact res_row1 h tmps w g ha hB hd.1 hd.2 (by rw [Try.sizeLife, lifeC_len hid])
def z5 : Array Value := #[.int .u8 0, .int .u8 0, .int .u8 0, .int .u8 0, .int .u64 0]
set_option maxHeartbeats 4000000 in
set_option maxRecDepth 100000 in
theorem of_any (r : Rt) (w : World) (hr : r.Ok) : Calls Try.prog 83 #[r.V] w fun e w' => e = .returned (lifeV r.id r.gen) ∧ Ex w w' := by
 obtain ⟨cs, hcs⟩ : ∃ cs, cs = r.C.toArray := ⟨_, rfl⟩
 have A0 : Hid (RB ((w.alloc (.cells cs 83)).alloc (.cells z5 153)) w.heap.size r) := Hi ⟨hr, by rw [hcs]; exact (Bk.new rfl _ _).more _⟩
 have L0 : Hid (Bk ((w.alloc (.cells cs 83)).alloc (.cells z5 153)) (w.heap.size + 1) 153 z5) := Hi (Bk.new (by simp) _ _)
 have BW : Hid (Ex w ((w.alloc (.cells cs 83)).alloc (.cells z5 153))) := Hi (Ex.trans (Ex.alloc w _) (Ex.alloc _ _))
 rw [show (Calls Try.prog 83 #[r.V] w) = (Calls Try.prog 83 #[.agg cs] w) by rw [hcs]; rfl]
 clear hcs
 have HR := Hi hr
 clear hr
 go_enter Try.func83, Try.ntmps83
 go_wp2_with ((with_reducible refine so2 [1000+153] ?_ ?_); (focus rfl))
 (with_reducible refine ⟨?_⟩)
 change wpList _ _ _ _ _ ((w.alloc (.cells cs 83)).alloc (.cells z5 153))
 generalize hw1 : ((w.alloc (.cells cs 83)).alloc (.cells z5 153)) = w1 at *
 clear hw1
 obtain ⟨B, hB⟩ : ∃ B, B = w.heap.size := ⟨_, rfl⟩
 rw [← hB] at A0 L0 ⊢
 have HB := Hi hB
 clear hB
 have a5 := A0.out.cells.2.1
 (with_reducible refine at_any ?_ ?_); (focus go_simp); refine fun K0 hK => ld_rid _ _ r rfl rfl A0.out (hK _ _ ?_)
 clear hK
 go_wp2_with ((with_reducible refine so2 [1000+153] ?_ ?_); (focus rfl))
 refine at9 (by go_simp) fun K0 hK => wp_build _ _ rfl _ (built_life r.id r.gen HR.out.idN) (hK _ _ ?_)
 clear hK a5
 go_wp2_with ((with_reducible refine so2 [1000+153] ?_ ?_); (focus rfl))
 refine at9 (by go_simp) fun K0 hK => st_life _ _ (B + 1) r.id r.gen HR.out.idN rfl rfl rfl L0.out rfl (fun w2 hd ho => hK _ _ ?_)
 clear hK
 have x2 : Ex w w2 := ho.below w.heap.size (by rw [← HB.out]; omega) w BW.out
 go_wp2_with fail
 exact bodyPost_ret (res_life rfl _ _ (B + 1) rfl r.id r.gen HR.out.idN hd) rfl ⟨rfl, x2⟩
set_option maxHeartbeats 4000000 in
set_option maxRecDepth 100000 in
theorem tells_any (r : Rt) (w : World) (hr : r.Ok) : Calls Try.prog 84 #[r.V] w fun e w' => e = .returned (.bool (decide (r.why = 0 ∧ 0 < r.sec.l.length))) ∧ Ex w w' := by
 obtain ⟨cs, hcs⟩ : ∃ cs, cs = r.C.toArray := ⟨_, rfl⟩
 have A0 : Hid (RB (w.alloc (.cells cs 83)) w.heap.size r) := Hi ⟨hr, by rw [hcs]; exact Bk.new rfl _ _⟩
 have BW : Hid (Ex w (w.alloc (.cells cs 83))) := Hi (Ex.alloc w _)
 rw [show (Calls Try.prog 84 #[r.V] w) = (Calls Try.prog 84 #[.agg cs] w) by rw [hcs]; rfl]
 clear hcs hr
 obtain ⟨a0, _, _, a7, _, _⟩ := A0.out.cells
 unfold Pt.V at a7
 obtain ⟨n, hn⟩ : ∃ n, n = r.sec.l.length := ⟨_, rfl⟩
 obtain ⟨y, hy⟩ : ∃ y, y = r.why := ⟨_, rfl⟩
 rw [← hn] at a7 ⊢
 rw [← hy] at a0 ⊢
 clear hn hy
 obtain ⟨z, hz⟩ : ∃ z, z = decide (y = 0 ∧ 0 < n) := ⟨_, rfl⟩
 rw [← hz]
 have HZ := Hi hz
 clear hz
 by_cases h0 : y = 0
 ·subst h0
  by_cases h1 : 0 < n
  ·have h1i : (0 : Int) < (n : Int) := by omega
   go_enter Try.func84, Try.ntmps84
   go_wp2_with fail
   go_ret
   have hz1 : z = true := by rw [HZ.out]; simp [h1]
   exact ⟨congrArg (fun b => Ending.returned (.bool b)) hz1.symm, BW.out⟩
  have h1i : ¬ (0 : Int) < (n : Int) := by omega
  go_enter Try.func84, Try.ntmps84
  go_wp2_with fail
  go_ret
  have hz1 : z = false := by rw [HZ.out]; simp; omega
  exact ⟨congrArg (fun b => Ending.returned (.bool b)) hz1.symm, BW.out⟩
 go_enter Try.func84, Try.ntmps84
 go_wp2_with fail
 go_ret
 have hz1 : z = false := by rw [HZ.out, decide_eq_false (fun h => h0 h.1)]
 exact ⟨congrArg (fun b => Ending.returned (.bool b)) hz1.symm, BW.out⟩
def fields153x : List Field := [⟨ "id", 32, 0, false, "", "claviger/judge", 0⟩, ⟨ "gen", 24, 4, false, "", "claviger/judge", 8⟩]
theorem fields153x_is : (Try.prog.fieldsOf 153).toList = fields153x := by
 unfold Program.fieldsOf
 rw [Try.underlying153]
 rfl
theorem under153x : Try.prog.underlying 153 = some (.struct (Try.prog.fieldsOf 153)) := by
 unfold Program.fieldsOf; rw [Try.underlying153]
theorem Try.guardLife : Try.prog.eqGuardType Try.prog.depth 153 = false := by kernel_rfl
theorem Try.stoodLife : Try.prog.stoodInHeld 153 = false := by kernel_rfl
theorem Try.isAggId (w : World) : (isAgg 32).run Try.prog w = .ok true w := by
 unfold isAgg; simp [run_underlying Try.underlying32, go_sem]
theorem part_int {t : TypeId} {xs : Array Value} {off : Nat} {v : Value} (w : World) (ha : (isAgg t).run Try.prog w = .ok false w) (hx : xs[off]? = some v) : (part t xs off).run Try.prog w = .ok v w := by
 unfold part
 simp only [Sem.run_bind, ha, Result.andThen_ok, Bool.false_eq_true, if_false, hx, Sem.run_pure]
theorem agg_no {t : TypeId} (w : World) {k : IntKind} (h : Try.prog.underlying t = some (.int k)) : (isAgg t).run Try.prog w = .ok false w := by
 unfold isAgg; simp [run_underlying h, go_sem]
theorem size_run {t : TypeId} {n : Nat} (w : World) (h : (Try.prog.info? t).map (·.size) = some n) : (sizeOf t).run Try.prog w = .ok n w := by
 cases hq : Try.prog.info? t with
 | none => rw [hq] at h; cases h
 | some i =>
  rw [hq] at h
  obtain rfl : i.size = n := by simpa using h
  have : (typeInfo t).run Try.prog w = .ok i w := by unfold typeInfo; simp [go_sem, hq, Sem.run_bind]
  unfold sizeOf; simp [Sem.run_bind, this]
theorem eqf_cons (w : World) (d : Nat) (X Y : Array Value) (f : Field) (fs : List Field) (a b : Value) (z : Bool) (hn : f.name ≠ "_") (pa : (part f.type X f.offset).run Try.prog w = .ok a w) (pb : (part f.type Y f.offset).run Try.prog w = .ok b w) (he : (Op.equalIn d f.type a b).run Try.prog w = .ok z w) :
  (Op.eqFields d X Y (f :: fs)).run Try.prog w = if z = true then (Op.eqFields d X Y fs).run Try.prog w else .ok false w := by
 rw [Op.eqFields, if_pos hn]
 simp only [Sem.run_bind, pa, pb, Result.andThen_ok, he]
 cases z <;> simp [Sem.run_pure]
theorem part_id (w : World) (id : List UInt8) (g : Int) (h : id.length = 4) : (part 32 (lifeC id g).toArray 0).run Try.prog w = .ok (digV id) w := by
 unfold part
 simp only [Sem.run_bind, Try.isAggId, Result.andThen_ok, if_true]
 rw [size_run w Try.sizeId]
 simp only [Result.andThen_ok, Sem.run_pure]
 congr 1
 unfold digV
 congr 1
 apply Array.ext'
 unfold lifeC
 have h16 := byteCells_len id
 rw [h] at h16
 simp [List.take_of_length_le (Nat.le_of_eq h16), h16]
theorem part_gen (w : World) (id : List UInt8) (g : Int) (h : id.length = 4) : (part 24 (lifeC id g).toArray 4).run Try.prog w = .ok (.int .u64 g) w :=
 part_int w (agg_no w Try.underlying24) (by
  rw [List.getElem?_toArray]; unfold lifeC
  rw [List.getElem?_append_right (by rw [byteCells_len, h]; exact Nat.le_refl _), byteCells_len, h]; rfl)
theorem eq_life (w : World) (d : Nat) (l m : List UInt8) (g n : Int) (hl : l.length = 4) (hm : m.length = 4) : (Op.equalIn (d + 3) 153 (lifeV l g) (lifeV m n)).run Try.prog w = .ok (decide (l = m ∧ g = n)) w := by
 have e1 := eq_id w d l m hl hm
 have e2 : (Op.equalIn (d + 2) 24 (.int .u64 g) (.int .u64 n)).run Try.prog w = .ok (g == n) w := run_equalIn_int w (d + 1) 24 .u64 .u64 g n Try.underlying24
 unfold lifeV
 rw [run_equalIn_struct w (d + 2) 153 _ _ under153x Try.stoodLife, fields153x_is]
 unfold fields153x
 refine (eqf_cons w (d + 2) _ _ ⟨ "id", 32, 0, false, "", "claviger/judge", 0⟩ _ (digV l) (digV m) _ (by decide) (part_id w l g hl) (part_id w m n hm) e1).trans ?_
 have h2 := eqf_cons w (d + 2) (lifeC l g).toArray (lifeC m n).toArray ⟨ "gen", 24, 4, false, "", "claviger/judge", 8⟩ [] (.int .u64 g) (.int .u64 n) _ (by decide) (part_gen w l g hl) (part_gen w m n hm) e2
 rw [h2]
 have e0 : (Op.eqFields (d + 2) (lifeC l g).toArray (lifeC m n).toArray []).run Try.prog w = .ok true w := rfl
 rw [e0]
 by_cases h1 : l = m
 ·by_cases h3 : g = n
  ·simp [h1, h3]
  simp [h1, h3]
 simp [h1]
theorem wp_eql_life {o : Oper} {a : Act} {w : World} {K : Act → World → Prop} {Q : Exit → Act → World → Prop} (t' : TypeId) (x y : Operand) (ho : o.op = .binOp .eql 153 x y t') (l m : List UInt8) (g n : Int) (hl : l.length = 4) (hm : m.length = 4)
  (hx : a.eval x = lifeV l g) (hy : a.eval y = lifeV m n) (h : K (a.put o.dst (.bool (decide (l = m ∧ g = n)))) w) : o.wp Try.prog a w K Q := by
 have heq := eq_life w 9997 l m g n hl hm
 unfold Oper.wp execOp
 simp only [ho, hx, hy]
 unfold lifeV at heq ⊢
 simp [run_eqGuard_agg, run_eql_struct, Try.guardLife, heq, Sem.run_bind, Result.andThen, Oper.upon]
 simpa using h
end Go.Proofs.Ytmjfnpmnhehnkaa
namespace Go.Proofs.Ytmjfnpmnhehnkaa
open Go.RowKit
def wrongB (id : List UInt8) (g : Int) (r : Rt) : Bool := decide (r.id = id ∧ r.gen = g) && decide (r.why = 23)
def toldB (id : List UInt8) (g : Int) (r : Rt) : Bool := decide (r.id = id ∧ r.gen = g) && decide (r.why = 0 ∧ 0 < r.sec.l.length)
theorem count_next {p : Rt → Bool} {l : List Rt} {k : Nat} {x : Rt} (h : l[k]? = some x) : (l.take (k + 1)).countP p = (l.take k).countP p + (if p x = true then 1 else 0) := by
 rw [List.take_add_one, h, List.countP_append]
 simp [List.countP_cons]
theorem count_le (p : Rt → Bool) (l : List Rt) (k : Nat) : (l.take k).countP p ≤ k := Nat.le_trans List.countP_le_length (by rw [List.length_take]; exact Nat.min_le_left _ _)
theorem Try.sizeI : (Try.prog.info? 32).map (·.size) = some 4 := by kernel_rfl
theorem ld_ib {o : Oper} {a : Act} {w : World} {K : Act → World → Prop} {Q : Exit → Act → World → Prop} (x : Operand) (g : Nat) (id : List UInt8) (hid : id.length = 4) (ho : o.op = .load 32 x) (ha : a.eval x = .pointer (some ⟨g, 0, none⟩)) (h : Bk w g 32 (Lib.byteCells id).toArray) (hk : K (a.put o.dst (digV id)) w) : o.wp Try.prog a w K Q := by
 obtain ⟨dd, hd⟩ : ∃ d, Try.prog.underlying 32 = some d ∧ d.isRow = true := ⟨_, Try.underlying32, rfl⟩
 exact wp_ldp (C := Lib.byteCells id) (Lib.byteCells id) x g 0 dd ho ha h (by rw [List.drop_zero, List.take_length]) hd.1 hd.2 (by rw [Try.sizeI, byteCells_len, hid]) hk
set_option maxHeartbeats 8000000 in
set_option maxRecDepth 100000 in
theorem wrongs_any (id : List UInt8) (gen : Int) (ad : Option Addr) (cap : Nat) (l : List Rt) (w : World) (hid : id.length = 4) (hL : l.length ≤ 9223372036854775807) (hin : Rp.In ad cap l w) : Calls Try.prog 47 #[digV id, .int .u64 gen, .slice ad l.length cap] w fun e w' => e = .returned (.int .i64 (l.countP (wrongB id gen) : Nat)) ∧ Ex w w' := by
 obtain ⟨n, hn⟩ : ∃ n, n = l.length := ⟨_, rfl⟩
 rw [← hn] at hL ⊢
 have HN := Hi hn
 have HIN := Hi hin
 have HID := Hi hid
 obtain ⟨cs, hcs⟩ : ∃ cs, cs = (Lib.byteCells id).toArray := ⟨_, rfl⟩
 have I0 : Hid (Bk (w.alloc (.cells cs 32)) w.heap.size 32 (Lib.byteCells id).toArray) := Hi (by rw [hcs]; exact Bk.new rfl _ _)
 have B0 : Hid (Ex w (w.alloc (.cells cs 32))) := Hi (Ex.alloc _ _)
 rw [show (Calls Try.prog 47 #[digV id, .int .u64 gen, .slice ad n cap] w) = (Calls Try.prog 47 #[.agg cs, .int .u64 gen, .slice ad n cap] w) by rw [hcs]; rfl]
 clear hcs hn hin hid
 go_enter Try.func47, Try.ntmps47
 go_wp2_with fail
 generalize hw1 : w.alloc (.cells cs 32) = w1 at *
 clear hw1
 obtain ⟨B, hB⟩ : ∃ B, B = w.heap.size := ⟨_, rfl⟩
 rw [← hB] at I0 ⊢
 clear hB
 go_loopw [7, 12] (fun c i wr => ∃ k : Nat, k ≤ n ∧ c = .int .i64 ((l.take k).countP (wrongB id gen) : Nat) ∧ i = .int .i64 k ∧ Hid (Ex w1 wr)) (fun _ i _ => n - (intOf i).toNat)
 case atStart => exact ⟨0, by omega, rfl, rfl, Hi (Ex.refl _)⟩
 obtain ⟨k, hk, rfl, rfl, BX⟩ := hrel
 by_cases hlt : k < n
 rotate_left
 ·obtain rfl : k = n := by omega
  have q1 : ¬ (k : Int) < (k : Int) := by omega
  have HTK : Hid (l.take k = l) := Hi (by rw [HN.out]; exact List.take_length)
  rw [HTK.out]
  clear HTK
  go_wp2_with fail
  go_ret
  exact ⟨rfl, Ex.trans B0.out BX.out⟩
 obtain ⟨ab, ofs, rfl, ha, hc⟩ := HIN.out.read (by rw [← HN.out]; omega)
 obtain ⟨x, hx⟩ : ∃ x, l[k]? = some x := ⟨_, List.getElem?_eq_getElem (by rw [← HN.out]; exact hlt)⟩
 have HCN := Hi (count_next (p := wrongB id gen) hx)
 have HCL := Hi (count_le (wrongB id gen) l k)
 obtain ⟨c, hc0⟩ : ∃ c, c = (l.take k).countP (wrongB id gen) := ⟨_, rfl⟩
 rw [← hc0] at HCN HCL ⊢
 have hcl := HCL.out
 clear hc0
 have XE : Hid (Ex w wr) := Hi (Ex.trans B0.out BX.out)
 have XOK := Hi (HIN.out.ins k x hx).ok
 have XR : Hid (wr.rangeAt ab (ofs + k * 10) x.C) := Hi (fun j u hu => (Below.cell (p := ⟨ab, ofs + k * 10 + j, none⟩) XE.out ha).trans (hc k x hx j u hu))
 have I1 := Hi (I0.out.ext BX.out)
 clear hc hx ha
 have q0 : (0 : Int) ≤ (k : Int) := by omega
 have q1 : (k : Int) < (n : Int) := by omega
 have q2 : (c : Int) < 9223372036854775807 := by omega
 have q3 : (0 : Int) ≤ (c : Int) := by omega
 go_wp2_with ((with_reducible refine so2 [4000+153] ?_ ?_); (focus rfl))
 refine at9 (by go_simp) fun K0 hK => ld_rr _ ab (ofs + k * 10) x XOK.out rfl rfl XR.out (hK _ _ ?_)
 clear hK
 go_wp2_with ((with_reducible refine so2 [4000+153] ?_ ?_); (focus rfl))
 refine at9 (by go_simp) fun K0 hK => st_r _ _ wr.heap.size x rfl rfl rfl XOK.out (Bk.new rfl _ _) (by rfl) (fun w3 hd ho => hK _ _ ?_)
 clear hK
 have x3 : Ex wr w3 := ho.below wr.heap.size (Nat.le_refl _) wr (Ex.alloc wr _)
 have HD := Hi hd
 have I2 := Hi (I1.out.ext x3)
 obtain ⟨g, hg⟩ : ∃ g, g = wr.heap.size := ⟨_, rfl⟩
 rw [← hg] at HD ⊢
 replace BX := Hi (Ex.trans BX.out x3)
 clear hd ho hg x3
 obtain ⟨b1, hb1⟩ : ∃ b, b = decide (x.id = id ∧ x.gen = gen) := ⟨_, rfl⟩
 have HB1 := Hi hb1
 obtain ⟨b2, hb2⟩ : ∃ b, b = decide (x.why = 23) := ⟨_, rfl⟩
 have HB2 := Hi hb2
 have HPX : Hid (wrongB id gen x = (b1 && b2)) := Hi (by unfold wrongB; rw [hb1, hb2])
 clear hb1 hb2
 cases b1
 ·go_wp2_with fail
  have hS0 : ∀ (listed : Array Bool) (f : Nat → Value), (∀ i, listed.getD i false = false) → Ex w3 w3.drew := fun _ _ _ => (Below.refl w3.heap.size w3).drew
  obtain ⟨T, hT⟩ : ∃ T : List (Value → Prop), T = [(fun zz => zz = x.V), (fun zz => zz = lifeV x.id x.gen), (fun zz => zz = digV id), (fun zz => zz = .int .u64 gen), (fun zz => zz = lifeV id gen), (fun zz => zz = .bool false), (fun zz => zz = .bool false), (fun zz => zz = undef), (fun zz => zz = undef), (fun zz => zz = undef), (fun zz => zz = .bool false)] := ⟨_, rfl⟩
  refine wp_region_gen (JS T ([] : List (Nat × Nat)) (fun _ _ wq => Ex w3 wq)) (by kernel_rfl) (by kernel_rfl) (by kernel_rfl) (fitB_spec (by kernel_rfl)) (fun listed f h => JS.start listed f h (hS0 listed f h)) ?_ ?_
  ·intro i o ho
   have hi : i < 11 := (Array.getElem?_eq_some_iff.1 ho).1
   have hi' : i = 0 ∨ i = 1 ∨ i = 2 ∨ i = 3 ∨ i = 4 ∨ i = 5 ∨ i = 6 ∨ i = 7 ∨ i = 8 ∨ i = 9 ∨ i = 10 := by omega
   clear hi
   rcases hi' with rfl | rfl | rfl | rfl | rfl | rfl | rfl | rfl | rfl | rfl | rfl
   all_goals (simp only [List.getElem?_toArray, List.getElem?_cons_zero, List.getElem?_cons_succ, Option.some.injEq] at ho; subst ho; intro listed f a w4 hJ hsz hls hun hdep hout hlat; first | (rw [if_pos (by rfl)]; intro K hK) | skip)
   ·have q9 := hout 9 (outB_spec (by kernel_rfl))
    exact ld_r _ g x rfl q9 (HD.out.ext hJ.st) (hK _ _ (hJ.nx hls hT rfl rfl hJ.st (no_head rfl)))
   ·have q16 := hJ.iq hT (hdep ⟨0, .data⟩ (by simp) rfl) rfl _ rfl _ rfl
    clear hsz hdep hout hlat
    go_simp
    refine (of_any x w4 XOK.out).mono ?_
    rintro e wq ⟨rfl, xq⟩
    exact hK _ _ (hJ.nx hls hT rfl rfl (Ex.trans hJ.st xq) (no_head rfl))
   ·have q3 := hout 3 (outB_spec (by kernel_rfl))
    exact ld_ib _ B id HID.out rfl q3 (I2.out.ext hJ.st) (hK _ _ (hJ.nx hls hT rfl rfl hJ.st (no_head rfl)))
   ·have q1 := hout 1 (outB_spec (by kernel_rfl))
    refine wp_mv _ rfl (hK _ _ ?_)
    rw [show a.eval (.tmp 1) = .int .u64 gen from q1]
    exact hJ.nx hls hT rfl rfl hJ.st (no_head rfl)
   ·have q18 := hJ.is hT (hdep ⟨2, .data⟩ (by simp) rfl) rfl _ rfl _ rfl
    have q19 := hJ.is hT (hdep ⟨3, .data⟩ (by simp) rfl) rfl _ rfl _ rfl
    refine wp_build _ _ rfl _ (by show Try.prog.built 153 [(0, a.tmps.getD 18 undef), (1, a.tmps.getD 19 undef)] = _; rw [q18, q19]; exact built_life id gen HID.out) (hK _ _ (hJ.nx hls hT rfl rfl hJ.st (no_head rfl)))
   ·have q17 := hJ.is hT (hdep ⟨1, .data⟩ (by simp) rfl) rfl _ rfl _ rfl
    have q20 := hJ.is hT (hdep ⟨4, .data⟩ (by simp) rfl) rfl _ rfl _ rfl
    exact wp_eql_life _ _ _ rfl x.id id x.gen gen XOK.out.idN HID.out q17 q20 (hK _ _ (hJ.nx hls hT rfl (by exact congrArg Value.bool HB1.out.symm) hJ.st (no_head rfl)))
   ·have q21 := hJ.is hT (hdep ⟨5, .data⟩ (by simp) rfl) rfl _ rfl _ rfl
    refine wp_mv _ rfl (hK _ _ ?_)
    rw [show a.eval (.tmp 21) = .bool false from q21]
    exact hJ.nx hls hT rfl rfl hJ.st (no_head rfl)
   ·have kg := hJ.is hT (hdep ⟨6, .guard⟩ (by simp) rfl) rfl _ rfl _ rfl
    rw [if_neg (not_wanted rfl rfl rfl kg (by decide))]
    exact hJ.nx hls hT rfl (by first | exact trivial | rfl) hJ.st (no_head rfl)
   ·have kg := hJ.is hT (hdep ⟨6, .guard⟩ (by simp) rfl) rfl _ rfl _ rfl
    rw [if_neg (not_wanted rfl rfl rfl kg (by decide))]
    exact hJ.nx hls hT rfl (by first | exact trivial | rfl) hJ.st (no_head rfl)
   ·have kg := hJ.is hT (hdep ⟨6, .guard⟩ (by simp) rfl) rfl _ rfl _ rfl
    rw [if_neg (not_wanted rfl rfl rfl kg (by decide))]
    exact hJ.nx hls hT rfl (by first | exact trivial | rfl) hJ.st (no_head rfl)
   have q22 := hJ.iq hT (hdep ⟨6, .data⟩ (by simp) rfl) rfl _ rfl _ rfl
   have q25 := hJ.iq hT (hdep ⟨9, .data⟩ (by simp) rfl) rfl _ rfl _ rfl
   clear hsz hdep hout hlat
   go_simp
   exact hK _ _ (hJ.nx hls hT rfl rfl hJ.st (no_head rfl))
  intro listed f w4 hall hJ
  have f10 : f 10 = .bool false := by
   have h := hJ.vals 10 (hall 10 (by simp))
   rw [hT] at h; exact h
  have hst := hJ.st
  simp only [putAll, Act.put, List.setIfInBounds_toArray, List.set_cons_zero, List.set_cons_succ, Nat.zero_add, Nat.reduceAdd]
  have x4 : Ex w3 w4 := hst
  replace BX := Hi (Ex.trans BX.out x4)
  clear x4 hst hS0
  rw [f10]
  clear f10
  clear hJ hall hT
  go_wp2_with fail
  go_roundw
  case rel => exact ⟨k + 1, by omega, by rw [HCN.out, HPX.out]; rfl, by go_num, BX⟩
  case measure => simp [intOf]; omega
 go_wp2_with fail
 have hS0 : ∀ (listed : Array Bool) (f : Nat → Value), (∀ i, listed.getD i false = false) → Ex w3 w3.drew := fun _ _ _ => (Below.refl w3.heap.size w3).drew
 obtain ⟨T, hT⟩ : ∃ T : List (Value → Prop), T = [(fun zz => zz = x.V), (fun zz => zz = lifeV x.id x.gen), (fun zz => zz = digV id), (fun zz => zz = .int .u64 gen), (fun zz => zz = lifeV id gen), (fun zz => zz = .bool true), (fun zz => zz = .bool true), (fun zz => zz = .pointer (some ⟨g, 0, none⟩)), (fun zz => zz = .int .i64 x.why), (fun zz => zz = .bool b2), (fun zz => zz = .bool b2)] := ⟨_, rfl⟩
 refine wp_region_gen (JS T ([] : List (Nat × Nat)) (fun _ _ wq => Ex w3 wq)) (by kernel_rfl) (by kernel_rfl) (by kernel_rfl) (fitB_spec (by kernel_rfl)) (fun listed f h => JS.start listed f h (hS0 listed f h)) ?_ ?_
 ·intro i o ho
  have hi : i < 11 := (Array.getElem?_eq_some_iff.1 ho).1
  have hi' : i = 0 ∨ i = 1 ∨ i = 2 ∨ i = 3 ∨ i = 4 ∨ i = 5 ∨ i = 6 ∨ i = 7 ∨ i = 8 ∨ i = 9 ∨ i = 10 := by omega
  clear hi
  rcases hi' with rfl | rfl | rfl | rfl | rfl | rfl | rfl | rfl | rfl | rfl | rfl
  all_goals (simp only [List.getElem?_toArray, List.getElem?_cons_zero, List.getElem?_cons_succ, Option.some.injEq] at ho; subst ho; intro listed f a w4 hJ hsz hls hun hdep hout hlat; first | (rw [if_pos (by rfl)]; intro K hK) | skip)
  ·have q9 := hout 9 (outB_spec (by kernel_rfl))
   exact ld_r _ g x rfl q9 (HD.out.ext hJ.st) (hK _ _ (hJ.nx hls hT rfl rfl hJ.st (no_head rfl)))
  ·have q16 := hJ.iq hT (hdep ⟨0, .data⟩ (by simp) rfl) rfl _ rfl _ rfl
   clear hsz hdep hout hlat
   go_simp
   refine (of_any x w4 XOK.out).mono ?_
   rintro e wq ⟨rfl, xq⟩
   exact hK _ _ (hJ.nx hls hT rfl rfl (Ex.trans hJ.st xq) (no_head rfl))
  ·have q3 := hout 3 (outB_spec (by kernel_rfl))
   exact ld_ib _ B id HID.out rfl q3 (I2.out.ext hJ.st) (hK _ _ (hJ.nx hls hT rfl rfl hJ.st (no_head rfl)))
  ·have q1 := hout 1 (outB_spec (by kernel_rfl))
   refine wp_mv _ rfl (hK _ _ ?_)
   rw [show a.eval (.tmp 1) = .int .u64 gen from q1]
   exact hJ.nx hls hT rfl rfl hJ.st (no_head rfl)
  ·have q18 := hJ.is hT (hdep ⟨2, .data⟩ (by simp) rfl) rfl _ rfl _ rfl
   have q19 := hJ.is hT (hdep ⟨3, .data⟩ (by simp) rfl) rfl _ rfl _ rfl
   refine wp_build _ _ rfl _ (by show Try.prog.built 153 [(0, a.tmps.getD 18 undef), (1, a.tmps.getD 19 undef)] = _; rw [q18, q19]; exact built_life id gen HID.out) (hK _ _ (hJ.nx hls hT rfl rfl hJ.st (no_head rfl)))
  ·have q17 := hJ.is hT (hdep ⟨1, .data⟩ (by simp) rfl) rfl _ rfl _ rfl
   have q20 := hJ.is hT (hdep ⟨4, .data⟩ (by simp) rfl) rfl _ rfl _ rfl
   exact wp_eql_life _ _ _ rfl x.id id x.gen gen XOK.out.idN HID.out q17 q20 (hK _ _ (hJ.nx hls hT rfl (by exact congrArg Value.bool HB1.out.symm) hJ.st (no_head rfl)))
  ·have q21 := hJ.is hT (hdep ⟨5, .data⟩ (by simp) rfl) rfl _ rfl _ rfl
   refine wp_mv _ rfl (hK _ _ ?_)
   rw [show a.eval (.tmp 21) = .bool true from q21]
   exact hJ.nx hls hT rfl rfl hJ.st (no_head rfl)
  ·have kg := hJ.is hT (hdep ⟨6, .guard⟩ (by simp) rfl) rfl _ rfl _ rfl
   rw [if_pos (wanted_of rfl rfl rfl kg)]
   clear kg
   intro K hK
   have q9 := hout 9 (outB_spec (by kernel_rfl))
   rw [Array.getD_eq_getD_getElem?] at q9
   clear hsz hdep hout hlat
   go_simp
   exact hK _ _ (hJ.nx hls hT rfl rfl hJ.st (no_head rfl))
  ·have kg := hJ.is hT (hdep ⟨6, .guard⟩ (by simp) rfl) rfl _ rfl _ rfl
   rw [if_pos (wanted_of rfl rfl rfl kg)]
   clear kg
   intro K hK
   have q23 := hJ.iq hT (hdep ⟨7, .data⟩ (by simp) rfl) rfl _ rfl _ rfl
   have c0 := (HD.out.ext hJ.st).cells.1
   clear hsz hdep hout hlat
   go_simp
   exact hK _ _ (hJ.nx hls hT rfl rfl hJ.st (no_head rfl))
  ·have kg := hJ.is hT (hdep ⟨6, .guard⟩ (by simp) rfl) rfl _ rfl _ rfl
   rw [if_pos (wanted_of rfl rfl rfl kg)]
   clear kg
   intro K hK
   have q24 := hJ.is hT (hdep ⟨8, .data⟩ (by simp) rfl) rfl _ rfl _ rfl
   exact wp_eql_err _ _ _ rfl x.why 23 q24 rfl (hK _ _ (hJ.nx hls hT rfl (by exact congrArg Value.bool HB2.out.symm) hJ.st (no_head rfl)))
  have q22 := hJ.iq hT (hdep ⟨6, .data⟩ (by simp) rfl) rfl _ rfl _ rfl
  have q25 := hJ.iq hT (hdep ⟨9, .data⟩ (by simp) rfl) rfl _ rfl _ rfl
  clear hsz hdep hout hlat
  go_simp
  exact hK _ _ (hJ.nx hls hT rfl rfl hJ.st (no_head rfl))
 intro listed f w4 hall hJ
 have f10 : f 10 = .bool b2 := by
  have h := hJ.vals 10 (hall 10 (by simp))
  rw [hT] at h; exact h
 have hst := hJ.st
 simp only [putAll, Act.put, List.setIfInBounds_toArray, List.set_cons_zero, List.set_cons_succ, Nat.zero_add, Nat.reduceAdd]
 have x4 : Ex w3 w4 := hst
 replace BX := Hi (Ex.trans BX.out x4)
 clear x4 hst hS0
 rw [f10]
 clear f10
 clear hJ hall hT
 cases b2
 ·go_wp2_with fail
  go_roundw
  case rel => exact ⟨k + 1, by omega, by rw [HCN.out, HPX.out]; rfl, by go_num, BX⟩
  case measure => simp [intOf]; omega
 go_wp2_with fail
 go_roundw
 case rel => exact ⟨k + 1, by omega, by rw [HCN.out, HPX.out]; rfl, by go_num, BX⟩
 case measure => simp [intOf]; omega
set_option maxHeartbeats 8000000 in
set_option maxRecDepth 100000 in
theorem told_any (id : List UInt8) (gen : Int) (ad : Option Addr) (cap : Nat) (l : List Rt) (w : World) (hid : id.length = 4) (hL : l.length ≤ 9223372036854775807) (hin : Rp.In ad cap l w) : Calls Try.prog 48 #[digV id, .int .u64 gen, .slice ad l.length cap] w fun e w' => e = .returned (.int .i64 (l.countP (toldB id gen) : Nat)) ∧ Ex w w' := by
 obtain ⟨n, hn⟩ : ∃ n, n = l.length := ⟨_, rfl⟩
 rw [← hn] at hL ⊢
 have HN := Hi hn
 have HIN := Hi hin
 have HID := Hi hid
 obtain ⟨cs, hcs⟩ : ∃ cs, cs = (Lib.byteCells id).toArray := ⟨_, rfl⟩
 have I0 : Hid (Bk (w.alloc (.cells cs 32)) w.heap.size 32 (Lib.byteCells id).toArray) := Hi (by rw [hcs]; exact Bk.new rfl _ _)
 have B0 : Hid (Ex w (w.alloc (.cells cs 32))) := Hi (Ex.alloc _ _)
 rw [show (Calls Try.prog 48 #[digV id, .int .u64 gen, .slice ad n cap] w) = (Calls Try.prog 48 #[.agg cs, .int .u64 gen, .slice ad n cap] w) by rw [hcs]; rfl]
 clear hcs hn hin hid
 go_enter Try.func48, Try.ntmps48
 go_wp2_with fail
 generalize hw1 : w.alloc (.cells cs 32) = w1 at *
 clear hw1
 obtain ⟨B, hB⟩ : ∃ B, B = w.heap.size := ⟨_, rfl⟩
 rw [← hB] at I0 ⊢
 clear hB
 go_loopw [7, 12] (fun c i wr => ∃ k : Nat, k ≤ n ∧ c = .int .i64 ((l.take k).countP (toldB id gen) : Nat) ∧ i = .int .i64 k ∧ Hid (Ex w1 wr)) (fun _ i _ => n - (intOf i).toNat)
 case atStart => exact ⟨0, by omega, rfl, rfl, Hi (Ex.refl _)⟩
 obtain ⟨k, hk, rfl, rfl, BX⟩ := hrel
 by_cases hlt : k < n
 rotate_left
 ·obtain rfl : k = n := by omega
  have q1 : ¬ (k : Int) < (k : Int) := by omega
  have HTK : Hid (l.take k = l) := Hi (by rw [HN.out]; exact List.take_length)
  rw [HTK.out]
  clear HTK
  go_wp2_with fail
  go_ret
  exact ⟨rfl, Ex.trans B0.out BX.out⟩
 obtain ⟨ab, ofs, rfl, ha, hc⟩ := HIN.out.read (by rw [← HN.out]; omega)
 obtain ⟨x, hx⟩ : ∃ x, l[k]? = some x := ⟨_, List.getElem?_eq_getElem (by rw [← HN.out]; exact hlt)⟩
 have HCN := Hi (count_next (p := toldB id gen) hx)
 have HCL := Hi (count_le (toldB id gen) l k)
 obtain ⟨c, hc0⟩ : ∃ c, c = (l.take k).countP (toldB id gen) := ⟨_, rfl⟩
 rw [← hc0] at HCN HCL ⊢
 have hcl := HCL.out
 clear hc0
 have XE : Hid (Ex w wr) := Hi (Ex.trans B0.out BX.out)
 have XOK := Hi (HIN.out.ins k x hx).ok
 have XR : Hid (wr.rangeAt ab (ofs + k * 10) x.C) := Hi (fun j u hu => (Below.cell (p := ⟨ab, ofs + k * 10 + j, none⟩) XE.out ha).trans (hc k x hx j u hu))
 have I1 := Hi (I0.out.ext BX.out)
 clear hc hx ha
 have q0 : (0 : Int) ≤ (k : Int) := by omega
 have q1 : (k : Int) < (n : Int) := by omega
 have q2 : (c : Int) < 9223372036854775807 := by omega
 have q3 : (0 : Int) ≤ (c : Int) := by omega
 go_wp2_with ((with_reducible refine so2 [4000+153] ?_ ?_); (focus rfl))
 refine at9 (by go_simp) fun K0 hK => ld_rr _ ab (ofs + k * 10) x XOK.out rfl rfl XR.out (hK _ _ ?_)
 clear hK
 go_wp2_with ((with_reducible refine so2 [4000+153] ?_ ?_); (focus rfl))
 refine at9 (by go_simp) fun K0 hK => st_r _ _ wr.heap.size x rfl rfl rfl XOK.out (Bk.new rfl _ _) (by rfl) (fun w3 hd ho => hK _ _ ?_)
 clear hK
 have x3 : Ex wr w3 := ho.below wr.heap.size (Nat.le_refl _) wr (Ex.alloc wr _)
 have HD := Hi hd
 have I2 := Hi (I1.out.ext x3)
 obtain ⟨g, hg⟩ : ∃ g, g = wr.heap.size := ⟨_, rfl⟩
 rw [← hg] at HD ⊢
 replace BX := Hi (Ex.trans BX.out x3)
 clear hd ho hg x3
 obtain ⟨b1, hb1⟩ : ∃ b, b = decide (x.id = id ∧ x.gen = gen) := ⟨_, rfl⟩
 have HB1 := Hi hb1
 obtain ⟨b2, hb2⟩ : ∃ b, b = decide (x.why = 0 ∧ 0 < x.sec.l.length) := ⟨_, rfl⟩
 have HB2 := Hi hb2
 have HPX : Hid (toldB id gen x = (b1 && b2)) := Hi (by unfold toldB; rw [hb1, hb2])
 clear hb1 hb2
 cases b1
 ·go_wp2_with fail
  have hS0 : ∀ (listed : Array Bool) (f : Nat → Value), (∀ i, listed.getD i false = false) → Ex w3 w3.drew := fun _ _ _ => (Below.refl w3.heap.size w3).drew
  obtain ⟨T, hT⟩ : ∃ T : List (Value → Prop), T = [(fun zz => zz = x.V), (fun zz => zz = lifeV x.id x.gen), (fun zz => zz = digV id), (fun zz => zz = .int .u64 gen), (fun zz => zz = lifeV id gen), (fun zz => zz = .bool false), (fun zz => zz = .bool false), (fun zz => zz = undef), (fun zz => zz = undef), (fun zz => zz = .bool false)] := ⟨_, rfl⟩
  refine wp_region_gen (JS T ([] : List (Nat × Nat)) (fun _ _ wq => Ex w3 wq)) (by kernel_rfl) (by kernel_rfl) (by kernel_rfl) (fitB_spec (by kernel_rfl)) (fun listed f h => JS.start listed f h (hS0 listed f h)) ?_ ?_
  ·intro i o ho
   have hi : i < 10 := (Array.getElem?_eq_some_iff.1 ho).1
   have hi' : i = 0 ∨ i = 1 ∨ i = 2 ∨ i = 3 ∨ i = 4 ∨ i = 5 ∨ i = 6 ∨ i = 7 ∨ i = 8 ∨ i = 9 := by omega
   clear hi
   rcases hi' with rfl | rfl | rfl | rfl | rfl | rfl | rfl | rfl | rfl | rfl
   all_goals (simp only [List.getElem?_toArray, List.getElem?_cons_zero, List.getElem?_cons_succ, Option.some.injEq] at ho; subst ho; intro listed f a w4 hJ hsz hls hun hdep hout hlat; first | (rw [if_pos (by rfl)]; intro K hK) | skip)
   ·have q9 := hout 9 (outB_spec (by kernel_rfl))
    exact ld_r _ g x rfl q9 (HD.out.ext hJ.st) (hK _ _ (hJ.nx hls hT rfl rfl hJ.st (no_head rfl)))
   ·have q16 := hJ.iq hT (hdep ⟨0, .data⟩ (by simp) rfl) rfl _ rfl _ rfl
    clear hsz hdep hout hlat
    go_simp
    refine (of_any x w4 XOK.out).mono ?_
    rintro e wq ⟨rfl, xq⟩
    exact hK _ _ (hJ.nx hls hT rfl rfl (Ex.trans hJ.st xq) (no_head rfl))
   ·have q3 := hout 3 (outB_spec (by kernel_rfl))
    exact ld_ib _ B id HID.out rfl q3 (I2.out.ext hJ.st) (hK _ _ (hJ.nx hls hT rfl rfl hJ.st (no_head rfl)))
   ·have q1 := hout 1 (outB_spec (by kernel_rfl))
    refine wp_mv _ rfl (hK _ _ ?_)
    rw [show a.eval (.tmp 1) = .int .u64 gen from q1]
    exact hJ.nx hls hT rfl rfl hJ.st (no_head rfl)
   ·have q18 := hJ.is hT (hdep ⟨2, .data⟩ (by simp) rfl) rfl _ rfl _ rfl
    have q19 := hJ.is hT (hdep ⟨3, .data⟩ (by simp) rfl) rfl _ rfl _ rfl
    refine wp_build _ _ rfl _ (by show Try.prog.built 153 [(0, a.tmps.getD 18 undef), (1, a.tmps.getD 19 undef)] = _; rw [q18, q19]; exact built_life id gen HID.out) (hK _ _ (hJ.nx hls hT rfl rfl hJ.st (no_head rfl)))
   ·have q17 := hJ.is hT (hdep ⟨1, .data⟩ (by simp) rfl) rfl _ rfl _ rfl
    have q20 := hJ.is hT (hdep ⟨4, .data⟩ (by simp) rfl) rfl _ rfl _ rfl
    exact wp_eql_life _ _ _ rfl x.id id x.gen gen XOK.out.idN HID.out q17 q20 (hK _ _ (hJ.nx hls hT rfl (by exact congrArg Value.bool HB1.out.symm) hJ.st (no_head rfl)))
   ·have q21 := hJ.is hT (hdep ⟨5, .data⟩ (by simp) rfl) rfl _ rfl _ rfl
    refine wp_mv _ rfl (hK _ _ ?_)
    rw [show a.eval (.tmp 21) = .bool false from q21]
    exact hJ.nx hls hT rfl rfl hJ.st (no_head rfl)
   ·have kg := hJ.is hT (hdep ⟨6, .guard⟩ (by simp) rfl) rfl _ rfl _ rfl
    rw [if_neg (not_wanted rfl rfl rfl kg (by decide))]
    exact hJ.nx hls hT rfl (by first | exact trivial | rfl) hJ.st (no_head rfl)
   ·have kg := hJ.is hT (hdep ⟨6, .guard⟩ (by simp) rfl) rfl _ rfl _ rfl
    rw [if_neg (not_wanted rfl rfl rfl kg (by decide))]
    exact hJ.nx hls hT rfl (by first | exact trivial | rfl) hJ.st (no_head rfl)
   have q22 := hJ.iq hT (hdep ⟨6, .data⟩ (by simp) rfl) rfl _ rfl _ rfl
   have q24 := hJ.iq hT (hdep ⟨8, .data⟩ (by simp) rfl) rfl _ rfl _ rfl
   clear hsz hdep hout hlat
   go_simp
   exact hK _ _ (hJ.nx hls hT rfl rfl hJ.st (no_head rfl))
  intro listed f w4 hall hJ
  have f9 : f 9 = .bool false := by
   have h := hJ.vals 9 (hall 9 (by simp))
   rw [hT] at h; exact h
  have hst := hJ.st
  simp only [putAll, Act.put, List.setIfInBounds_toArray, List.set_cons_zero, List.set_cons_succ, Nat.zero_add, Nat.reduceAdd]
  have x4 : Ex w3 w4 := hst
  replace BX := Hi (Ex.trans BX.out x4)
  clear x4 hst hS0
  rw [f9]
  clear f9
  clear hJ hall hT
  go_wp2_with fail
  go_roundw
  case rel => exact ⟨k + 1, by omega, by rw [HCN.out, HPX.out]; rfl, by go_num, BX⟩
  case measure => simp [intOf]; omega
 go_wp2_with fail
 have hS0 : ∀ (listed : Array Bool) (f : Nat → Value), (∀ i, listed.getD i false = false) → Ex w3 w3.drew := fun _ _ _ => (Below.refl w3.heap.size w3).drew
 obtain ⟨T, hT⟩ : ∃ T : List (Value → Prop), T = [(fun zz => zz = x.V), (fun zz => zz = lifeV x.id x.gen), (fun zz => zz = digV id), (fun zz => zz = .int .u64 gen), (fun zz => zz = lifeV id gen), (fun zz => zz = .bool true), (fun zz => zz = .bool true), (fun zz => zz = x.V), (fun zz => zz = .bool b2), (fun zz => zz = .bool b2)] := ⟨_, rfl⟩
 refine wp_region_gen (JS T ([] : List (Nat × Nat)) (fun _ _ wq => Ex w3 wq)) (by kernel_rfl) (by kernel_rfl) (by kernel_rfl) (fitB_spec (by kernel_rfl)) (fun listed f h => JS.start listed f h (hS0 listed f h)) ?_ ?_
 ·intro i o ho
  have hi : i < 10 := (Array.getElem?_eq_some_iff.1 ho).1
  have hi' : i = 0 ∨ i = 1 ∨ i = 2 ∨ i = 3 ∨ i = 4 ∨ i = 5 ∨ i = 6 ∨ i = 7 ∨ i = 8 ∨ i = 9 := by omega
  clear hi
  rcases hi' with rfl | rfl | rfl | rfl | rfl | rfl | rfl | rfl | rfl | rfl
  all_goals (simp only [List.getElem?_toArray, List.getElem?_cons_zero, List.getElem?_cons_succ, Option.some.injEq] at ho; subst ho; intro listed f a w4 hJ hsz hls hun hdep hout hlat; first | (rw [if_pos (by rfl)]; intro K hK) | skip)
  ·have q9 := hout 9 (outB_spec (by kernel_rfl))
   exact ld_r _ g x rfl q9 (HD.out.ext hJ.st) (hK _ _ (hJ.nx hls hT rfl rfl hJ.st (no_head rfl)))
  ·have q16 := hJ.iq hT (hdep ⟨0, .data⟩ (by simp) rfl) rfl _ rfl _ rfl
   clear hsz hdep hout hlat
   go_simp
   refine (of_any x w4 XOK.out).mono ?_
   rintro e wq ⟨rfl, xq⟩
   exact hK _ _ (hJ.nx hls hT rfl rfl (Ex.trans hJ.st xq) (no_head rfl))
  ·have q3 := hout 3 (outB_spec (by kernel_rfl))
   exact ld_ib _ B id HID.out rfl q3 (I2.out.ext hJ.st) (hK _ _ (hJ.nx hls hT rfl rfl hJ.st (no_head rfl)))
  ·have q1 := hout 1 (outB_spec (by kernel_rfl))
   refine wp_mv _ rfl (hK _ _ ?_)
   rw [show a.eval (.tmp 1) = .int .u64 gen from q1]
   exact hJ.nx hls hT rfl rfl hJ.st (no_head rfl)
  ·have q18 := hJ.is hT (hdep ⟨2, .data⟩ (by simp) rfl) rfl _ rfl _ rfl
   have q19 := hJ.is hT (hdep ⟨3, .data⟩ (by simp) rfl) rfl _ rfl _ rfl
   refine wp_build _ _ rfl _ (by show Try.prog.built 153 [(0, a.tmps.getD 18 undef), (1, a.tmps.getD 19 undef)] = _; rw [q18, q19]; exact built_life id gen HID.out) (hK _ _ (hJ.nx hls hT rfl rfl hJ.st (no_head rfl)))
  ·have q17 := hJ.is hT (hdep ⟨1, .data⟩ (by simp) rfl) rfl _ rfl _ rfl
   have q20 := hJ.is hT (hdep ⟨4, .data⟩ (by simp) rfl) rfl _ rfl _ rfl
   exact wp_eql_life _ _ _ rfl x.id id x.gen gen XOK.out.idN HID.out q17 q20 (hK _ _ (hJ.nx hls hT rfl (by exact congrArg Value.bool HB1.out.symm) hJ.st (no_head rfl)))
  ·have q21 := hJ.is hT (hdep ⟨5, .data⟩ (by simp) rfl) rfl _ rfl _ rfl
   refine wp_mv _ rfl (hK _ _ ?_)
   rw [show a.eval (.tmp 21) = .bool true from q21]
   exact hJ.nx hls hT rfl rfl hJ.st (no_head rfl)
  ·have kg := hJ.is hT (hdep ⟨6, .guard⟩ (by simp) rfl) rfl _ rfl _ rfl
   rw [if_pos (wanted_of rfl rfl rfl kg)]
   clear kg
   intro K hK
   have q9 := hout 9 (outB_spec (by kernel_rfl))
   exact ld_r _ g x rfl q9 (HD.out.ext hJ.st) (hK _ _ (hJ.nx hls hT rfl rfl hJ.st (no_head rfl)))
  ·have kg := hJ.is hT (hdep ⟨6, .guard⟩ (by simp) rfl) rfl _ rfl _ rfl
   rw [if_pos (wanted_of rfl rfl rfl kg)]
   clear kg
   intro K hK
   have q23 := hJ.iq hT (hdep ⟨7, .data⟩ (by simp) rfl) rfl _ rfl _ rfl
   clear hsz hdep hout hlat
   go_simp
   refine (tells_any x w4 XOK.out).mono ?_
   rintro e wq ⟨rfl, xq⟩
   exact hK _ _ (hJ.nx hls hT rfl (by exact congrArg Value.bool HB2.out.symm) (Ex.trans hJ.st xq) (no_head rfl))
  have q22 := hJ.iq hT (hdep ⟨6, .data⟩ (by simp) rfl) rfl _ rfl _ rfl
  have q24 := hJ.iq hT (hdep ⟨8, .data⟩ (by simp) rfl) rfl _ rfl _ rfl
  clear hsz hdep hout hlat
  go_simp
  exact hK _ _ (hJ.nx hls hT rfl rfl hJ.st (no_head rfl))
 intro listed f w4 hall hJ
 have f9 : f 9 = .bool b2 := by
  have h := hJ.vals 9 (hall 9 (by simp))
  rw [hT] at h; exact h
 have hst := hJ.st
 simp only [putAll, Act.put, List.setIfInBounds_toArray, List.set_cons_zero, List.set_cons_succ, Nat.zero_add, Nat.reduceAdd]
 have x4 : Ex w3 w4 := hst
 replace BX := Hi (Ex.trans BX.out x4)
 clear x4 hst hS0
 rw [f9]
 clear f9
 clear hJ hall hT
 cases b2
 ·go_wp2_with fail
  go_roundw
  case rel => exact ⟨k + 1, by omega, by rw [HCN.out, HPX.out]; rfl, by go_num, BX⟩
  case measure => simp [intOf]; omega
 go_wp2_with fail
 go_roundw
 case rel => exact ⟨k + 1, by omega, by rw [HCN.out, HPX.out]; rfl, by go_num, BX⟩
 case measure => simp [intOf]; omega
end Go.Proofs.Ytmjfnpmnhehnkaa
