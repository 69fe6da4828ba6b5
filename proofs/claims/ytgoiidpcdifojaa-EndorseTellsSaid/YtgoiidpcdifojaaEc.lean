/- votes: equality, slices.Index, slices.Contains -/
import Derived.Test.YtgoiidpcdifojaaEb
import Derived.Test.YtgoiidpcdifojaaEqA
import Derived.Test.YtgoiidpcdifojaaQtA
import Derived.BigQuiet
namespace Go.Proofs.Ytgoiidpcdifojaa
open Go.RowKit
open Sm (digV DB by8 sumL numL zero16 by8_int Cls cls_load_mid wp_region_cls byteCells_len)
theorem wp_eql_agg {P : Program} {op : Oper} {a : Act} {w : World} {K : Act → World → Prop} {Q : Exit → Act → World → Prop} (t t' : TypeId) (x y : Operand) (ho : op.op = .binOp .eql t x y t')
    (xs ys : Array Value) (z : Bool) (hx : a.eval x = .agg xs) (hy : a.eval y = .agg ys) (hm : P.eqGuardType P.depth t = false) (heq : (Op.equalIn 10000 t (.agg xs) (.agg ys)).run P w = .ok z w)
    (h : K (a.put op.dst (.bool z)) w) : op.wp P a w K Q := by
  unfold Oper.wp execOp
  simp only [ho, hx, hy]
  simp [run_eqGuard_agg, run_eql_struct, hm, heq, Sem.run_bind, Result.andThen, Oper.upon]
  exact h
theorem cls_eql_agg {P : Program} {op : Oper} {a : Act} {w1 : World} {K : Act → Prop} (t t' : TypeId) (x y : Operand) (ho : op.op = .binOp .eql t x y t')
    (xs ys : Array Value) (z : Bool) (hx : a.eval x = .agg xs) (hy : a.eval y = .agg ys) (hm : P.eqGuardType P.depth t = false) (heq : ∀ w, (Op.equalIn 10000 t (.agg xs) (.agg ys)).run P w = .ok z w)
    (h : K (a.put op.dst (.bool z))) : op.quiet P a (Cls w1) K := by
  refine ⟨_, fun w hw => ?_, h⟩
  unfold Oper.quietAt execOp
  simp only [ho, hx, hy]
  simp [run_eqGuard_agg, run_eql_struct, hm, heq, Sem.run_bind, Result.andThen]
  exact ⟨rfl, rfl⟩
def voC (x : Int × List UInt8) : List Value := .int .i64 x.1 :: Lib.byteCells x.2
def voV (x : Int × List UInt8) : Value := .agg (voC x).toArray
theorem voC_len {x : Int × List UInt8} (h : x.2.length = 16) : (voC x).length = 17 := by simp [voC, byteCells_len, h]
theorem Try.stood88 : Try.prog.stoodInHeld 88 = false := by kernel_rfl
theorem Try.cells59 : Try.prog.cellsOf 59 = 16 := by kernel_rfl
theorem Try.size59 : (Try.prog.info? 59).map (·.size) = some 16 := by kernel_rfl
theorem Try.size88 : (Try.prog.info? 88).map (·.size) = some 17 := by kernel_rfl
theorem Try.guard88 : Try.prog.eqGuardType Try.prog.depth 88 = false := by kernel_rfl
theorem Try.isAgg59' (w : World) : (isAgg 59).run Try.prog w = .ok true w := by
  unfold isAgg; simp [run_underlying Try.underlying59, go_sem]
theorem part_int {t : TypeId} {xs : Array Value} {off : Nat} {v : Value} (w : World) (ha : (isAgg t).run Try.prog w = .ok false w) (hx : xs[off]? = some v) : (part t xs off).run Try.prog w = .ok v w := by
  unfold part
  simp only [Sem.run_bind, ha, Result.andThen_ok, Bool.false_eq_true, if_false, hx, Sem.run_pure]
theorem agg_no {t : TypeId} (w : World) {k : IntKind} (h : Try.prog.underlying t = some (.int k)) : (isAgg t).run Try.prog w = .ok false w := by
  unfold isAgg; simp [run_underlying h, go_sem]
def fields88 : List Field := [⟨ "Member", 3, 0, false, "", "", 0⟩, ⟨ "Mark", 59, 1, false, "", "", 8⟩]
theorem fields88_is : (Try.prog.fieldsOf 88).toList = fields88 := by
  unfold Program.fieldsOf
  rw [Try.underlying88]
  rfl
theorem under88 : Try.prog.underlying 88 = some (.struct (Try.prog.fieldsOf 88)) := by
  unfold Program.fieldsOf; rw [Try.underlying88]
theorem size_run {t : TypeId} {n : Nat} (w : World) (h : (Try.prog.info? t).map (·.size) = some n) : (sizeOf t).run Try.prog w = .ok n w := by
  cases hq : Try.prog.info? t with
  | none => rw [hq] at h; cases h
  | some i =>
    rw [hq] at h
    obtain rfl : i.size = n := by simpa using h
    have : (typeInfo t).run Try.prog w = .ok i w := by unfold typeInfo; simp [go_sem, hq, Sem.run_bind]
    unfold sizeOf; simp [Sem.run_bind, this]
theorem part_dig (w : World) (x : Int × List UInt8) (h : x.2.length = 16) : (part 59 (voC x).toArray 1).run Try.prog w = .ok (digV x.2) w := by
  unfold part
  simp only [Sem.run_bind, Try.isAgg59', Result.andThen_ok, if_true]
  rw [size_run w Try.size59]
  simp only [Result.andThen_ok, Sem.run_pure]
  congr 1
  unfold digV
  congr 1
  apply Array.ext'
  unfold voC
  have h16 := byteCells_len x.2
  rw [h] at h16
  simp [List.take_of_length_le (Nat.le_of_eq h16)]
theorem eqf_cons (w : World) (d : Nat) (X Y : Array Value) (f : Field) (fs : List Field) (a b : Value) (z : Bool) (hn : f.name ≠ "_") (pa : (part f.type X f.offset).run Try.prog w = .ok a w) (pb : (part f.type Y f.offset).run Try.prog w = .ok b w) (he : (Op.equalIn d f.type a b).run Try.prog w = .ok z w) :
    (Op.eqFields d X Y (f :: fs)).run Try.prog w = if z = true then (Op.eqFields d X Y fs).run Try.prog w else .ok false w := by
  rw [Op.eqFields, if_pos hn]
  simp only [Sem.run_bind, pa, pb, Result.andThen_ok, he]
  cases z <;> simp [Sem.run_pure]
theorem eq_vote (w : World) (d : Nat) (x y : Int × List UInt8) (hx : x.2.length = 16) (hy : y.2.length = 16) : (Op.equalIn (d + 3) 88 (voV x) (voV y)).run Try.prog w = .ok (decide (x = y)) w := by
  have p0 : ∀ z : Int × List UInt8, (part 3 (voC z).toArray 0).run Try.prog w = .ok (.int .i64 z.1) w := fun z => part_int w (agg_no w Try.underlying3) rfl
  have e3 : (Op.equalIn (d + 2) 3 (.int .i64 x.1) (.int .i64 y.1)).run Try.prog w = .ok (x.1 == y.1) w := run_equalIn_int w (d + 1) 3 .i64 .i64 x.1 y.1 Try.underlying3
  have e59 := Sm.eq_digest w d x.2 y.2 hx hy
  unfold voV
  rw [run_equalIn_struct w (d + 2) 88 _ _ under88 Try.stood88, fields88_is]
  unfold fields88
  refine (eqf_cons w (d + 2) _ _ ⟨ "Member", 3, 0, false, "", "", 0⟩ _ (.int .i64 x.1) (.int .i64 y.1) _ (by decide) (p0 x) (p0 y) e3).trans ?_
  have h2 := eqf_cons w (d + 2) (voC x).toArray (voC y).toArray ⟨ "Mark", 59, 1, false, "", "", 8⟩ [] (digV x.2) (digV y.2) _ (by decide) (part_dig w x hx) (part_dig w y hy) e59
  rw [h2]
  have e0 : (Op.eqFields (d + 2) (voC x).toArray (voC y).toArray []).run Try.prog w = .ok true w := rfl
  rw [e0]
  obtain ⟨a, l⟩ := x
  obtain ⟨b, m⟩ := y
  by_cases h1 : a = b
  · by_cases h3 : l = m
    · simp [h1, h3]
    · simp [h1, h3]
  · simp [h1]
structure Vp where
  ad : Option Addr
  cap : Nat
  l : List (Int × List UInt8)
def Vp.V (p : Vp) : Value := .slice p.ad p.l.length p.cap
structure Vp.In (p : Vp) (w : World) (B : Nat) : Prop where
  cap : p.l.length ≤ p.cap
  nil : p.ad = none → p.cap = 0
  ok : ∀ (i : Nat) (x : Int × List UInt8), p.l[i]? = some x → x.2.length = 16
  read : 0 < p.l.length → ∃ a o, p.ad = some ⟨a, o, none⟩ ∧ a < B ∧ ∀ (i : Nat) (x : Int × List UInt8), p.l[i]? = some x → w.rangeAt a (o + 17 * i) (voC x)
theorem Vp.In.keep {p : Vp} {w w' : World} {B : Nat} (h : p.In w B) (k : Below B w w') : p.In w' B :=
  ⟨h.cap, h.nil, h.ok, fun h0 => by
    obtain ⟨a, o, e, hB, hc⟩ := h.read h0
    exact ⟨a, o, e, hB, fun i x hi j v hv => (k.cell (p := ⟨a, _, none⟩) hB).trans (hc i x hi j v hv)⟩⟩
theorem Vp.In.more {p : Vp} {w : World} {B B' : Nat} (h : p.In w B) (k : B ≤ B') : p.In w B' :=
  ⟨h.cap, h.nil, h.ok, fun h0 => by
    obtain ⟨a, o, e, hB, hc⟩ := h.read h0
    exact ⟨a, o, e, by omega, hc⟩⟩
theorem Vp.In.ext {p : Vp} {w w' : World} (h : p.In w w.heap.size) (k : Ex w w') : p.In w' w'.heap.size := (h.keep k).more k.size
def VIdxPost (l : List (Int × List UInt8)) (x : Int × List UInt8) (w : World) (e : Ending) (w' : World) : Prop := ∃ z : Int, e = .returned (.int .i64 z) ∧ decide (0 ≤ z) = decide (x ∈ l) ∧ Ex w w'
set_option maxHeartbeats 4000000 in
set_option maxRecDepth 100000 in
theorem vindex_any (p : Vp) (x : Int × List UInt8) (hx : x.2.length = 16) (w : World) (hp : p.In w w.heap.size) (hL : p.l.length ≤ 9223372036854775807) : Calls Try.prog 71 #[p.V, voV x] w (VIdxPost p.l x w) := by
  obtain ⟨cs, hcs⟩ : ∃ cs, cs = (voC x).toArray := ⟨_, rfl⟩
  have hcl : cs.size = 17 := by rw [hcs]; simp [voC_len hx]
  have bw : Ex w (w.alloc (.cells cs 88)) := (Below.refl _ _).alloc (Nat.le_refl _) _
  have b0 : Hid (Bk (w.alloc (.cells cs 88)) w.heap.size 88 cs) := Lib.hid (Bk.new rfl _ _)
  have HIN := Lib.hid (hp.ext bw)
  have BW := Lib.hid bw
  have HX := Lib.hid hx
  obtain ⟨ad, cap, l⟩ := p
  unfold Vp.V voV
  simp only at *
  obtain ⟨n, hn⟩ : ∃ n, n = l.length := ⟨_, rfl⟩
  have HN := Lib.hid hn
  rw [← hn] at hL ⊢
  rw [← hcs]
  have HCS := Lib.hid hcs
  clear hcs hcl hp hn hx bw
  go_enter Try.func71, Try.ntmps71
  go_wp2_with fail
  have bw := BW.out
  generalize hw1 : w.alloc (.cells cs 88) = w1 at *
  clear hw1 BW
  go_loopw [8] (fun i wr => ∃ k : Nat, k ≤ n ∧ i = .int .i64 k ∧ Hid (Bk wr w.heap.size 88 cs) ∧ Hid ((Vp.mk ad cap l).In wr wr.heap.size) ∧ Hid (¬ x ∈ l.take k) ∧ Hid (Ex w wr)) (fun i _ => n - (intOf i).toNat)
  case atStart => exact ⟨0, by omega, rfl, b0, HIN, Lib.hid (by simp), Lib.hid bw⟩
  case round =>
    clear b0 HIN bw
    obtain ⟨k, hk, rfl, b0, hin, hno, bw⟩ := hrel
    by_cases hlt : k < n
    · obtain ⟨a, o, e, ha, hc⟩ := hin.out.read (by show 0 < l.length; rw [← HN.out]; omega)
      simp only at e
      subst e
      have hkl : k < l.length := by rw [← HN.out]; exact hlt
      obtain ⟨y, hy⟩ : ∃ y, l[k]? = some y := ⟨_, List.getElem?_eq_getElem hkl⟩
      have hr := Lib.hid (hc k y hy)
      have hy16 := Lib.hid (hin.out.ok k y hy)
      have HA := Lib.hid ha
      have HY := Lib.hid hy
      have TK := Lib.hid (show l.take (k + 1) = l.take k ++ [y] by rw [List.take_add_one, hy]; rfl)
      have q0 : (0 : Int) ≤ (k : Int) := by omega
      have q1 : (k : Int) < (n : Int) := by omega
      clear hc hy ha hkl
      go_wp2_with fail
      refine wp_region_cls (by kernel_rfl) (by kernel_rfl) ?_
      refine BigFrame.wpQuiet_want rfl (fun K hK => ?_)
      refine cls_load_mid 88 _ rfl w.heap.size 0 rfl cs.toList _ (by have := b0.out.range (ds := cs.toList); exact this) b0.out.lt Try.underlying88 rfl (by rw [Try.size88, HCS.out]; simp [voC_len HX.out]) (hK _ ?_)
      clear hK
      refine BigFrame.wpQuiet_want rfl (fun K hK => BigFrame.quiet_move _ rfl (hK _ ?_)); clear hK
      refine BigFrame.wpQuiet_want rfl (fun K hK => BigFrame.quiet_move _ rfl (hK _ ?_)); clear hK
      refine BigFrame.wpQuiet_want rfl (fun K hK => ?_)
      refine ⟨.pointer (some ⟨a, o + 17 * k, none⟩), fun W hW => ?_, hK _ ?_⟩
      · go_simp
      clear hK
      refine BigFrame.wpQuiet_want rfl (fun K hK => ?_)
      refine cls_load_mid 88 _ rfl a (o + 17 * k) rfl (voC y) _ hr.out HA.out Try.underlying88 rfl (by rw [Try.size88, voC_len hy16.out]) (hK _ ?_)
      clear hK
      refine BigFrame.wpQuiet_want rfl (fun K hK => ?_)
      refine cls_eql_agg 88 _ _ _ rfl (voC x).toArray (voC y).toArray (decide (x = y)) (by rw [← HCS.out]; rfl) rfl Try.guard88 (fun W => eq_vote W 9997 x y HX.out hy16.out) (hK _ ?_)
      clear hK
      refine wpQuiet_nil ?_
      intro w2 hw2
      have b2 : Hid (Bk w2 w.heap.size 88 cs) := Lib.hid (b0.out.ext hw2)
      have in2 : Hid ((Vp.mk (some ⟨a, o, none⟩) cap l).In w2 w2.heap.size) := Lib.hid (hin.out.ext hw2)
      have bw2 : Hid (Ex w w2) := Lib.hid (Ex.trans bw.out hw2)
      clear b0 hin bw hw2 hr
      by_cases heq : x = y
      · have HE := Lib.hid heq
        rw [decide_eq_true heq]
        clear heq
        go_wp2_with fail
        go_ret
        refine ⟨(k : Int), rfl, ?_, bw2.out⟩
        rw [decide_eq_true (by omega : 0 ≤ (k : Int)), decide_eq_true]
        rw [HE.out]; exact List.mem_of_getElem? HY.out
      · have NO : Hid (¬ x ∈ l.take (k + 1)) := Lib.hid (by rw [TK.out]; simp [hno.out, heq])
        rw [decide_eq_false heq]
        clear heq hno
        go_wp2_with fail
        go_roundw
        case rel => exact ⟨k + 1, by omega, by go_num, b2, in2, NO, bw2⟩
        case measure => simp [intOf]; omega
    · obtain rfl : k = n := by omega
      go_wp2_with fail
      go_ret
      refine ⟨-1, rfl, ?_, bw.out⟩
      have h := hno.out
      rw [HN.out, List.take_length] at h
      rw [decide_eq_false (by omega : ¬ (0 : Int) ≤ -1), decide_eq_false h]
end Go.Proofs.Ytgoiidpcdifojaa
