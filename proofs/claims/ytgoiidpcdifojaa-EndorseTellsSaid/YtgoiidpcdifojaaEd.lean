/- slices.Contains of votes -/
import Derived.Test.YtgoiidpcdifojaaEc
namespace Go.Proofs.Ytgoiidpcdifojaa
open Go.RowKit
open Sm (digV DB by8 sumL numL zero16 by8_int Cls cls_load_mid wp_region_cls byteCells_len)
theorem wp_ldc {o : Oper} {a : Act} {w : World} {K : Act → World → Prop} {Q : Exit → Act → World → Prop} (t : TypeId) (x : Operand) (g : Nat) (cs : Array Value) (d : TypeDesc) (ho : o.op = .load t x) (ha : a.eval x = .pointer (some ⟨g, 0, none⟩)) (h : Bk w g t cs)
    (hu : Try.prog.underlying t = some d) (hd : d.isRow = true) (hs : (Try.prog.info? t).map (·.size) = some cs.size) (hk : K (a.put o.dst (.agg cs)) w) : o.wp Try.prog a w K Q :=
  wp_load_mid t x ho g 0 ha cs.toList d (Bk.range (ds := cs.toList) h) hu hd (by rw [hs]; simp) hk
theorem stop_load88 {P : Program} {ops : Array Oper} {rest : List Oper} {d : Option Tmp} {x : Operand} {t2 : TypeId} {pos : String} {af : Array Edge} {g : Option (Nat × Bool)} {a : Act} {w : World} {Q : Exit → Act → World → Prop}
    (k : Stop (wpList P ops Q ({ dst := d, op := .load 88 x, type := t2, pos := pos, after := af, guard := g } :: rest) a w)) : wpList P ops Q ({ dst := d, op := .load 88 x, type := t2, pos := pos, after := af, guard := g } :: rest) a w := k.go
set_option maxHeartbeats 4000000 in
set_option maxRecDepth 100000 in
theorem vcontains_any (p : Vp) (x : Int × List UInt8) (hx : x.2.length = 16) (w : World) (hp : p.In w w.heap.size) (hL : p.l.length ≤ 9223372036854775807) : Calls Try.prog 60 #[p.V, voV x] w fun e w' => e = .returned (.bool (decide (x ∈ p.l))) ∧ Below w.heap.size w w' := by
  obtain ⟨cs, hcs⟩ : ∃ cs, cs = (voC x).toArray := ⟨_, rfl⟩
  have hcl : cs.size = 17 := by rw [hcs]; simp [voC_len hx]
  have bw : Ex w (w.alloc (.cells cs 88)) := (Below.refl _ _).alloc (Nat.le_refl _) _
  have b0 : Hid (Bk (w.alloc (.cells cs 88)) w.heap.size 88 cs) := Lib.hid (Bk.new rfl _ _)
  have CI := Lib.hid (vindex_any p x hx _ (hp.ext bw) hL)
  have BW := Lib.hid bw
  have HCL := Lib.hid hcl
  have HCS := Lib.hid hcs
  obtain ⟨b, hb⟩ : ∃ b, b = decide (x ∈ p.l) := ⟨_, rfl⟩
  rw [← hb]
  have HB := Lib.hid hb
  unfold voV at CI ⊢
  rw [← hcs] at CI ⊢
  obtain ⟨pv, hpv⟩ : ∃ pv, pv = p.V := ⟨_, rfl⟩
  rw [← hpv] at CI ⊢
  clear hcs hcl hp hx bw hb hpv hL
  go_enter Try.func60, Try.ntmps60
  go_wp2_with (with_reducible refine stop_load88 ?_)
  have bw := BW.out
  generalize hw1 : w.alloc (.cells cs 88) = w1 at *
  clear hw1 BW
  (with_reducible refine ⟨?_⟩); (with_reducible refine at_any ?_ ?_); (focus go_simp); refine fun K hK => wp_ldc 88 _ w.heap.size cs _ rfl rfl b0.out Try.underlying88 rfl (by rw [Try.size88, HCL.out]) (hK _ _ ?_)
  clear hK
  go_wp2_with fail
  refine CI.out.mono ?_
  rintro e w2 ⟨z, rfl, hz, bx⟩
  have HZ := Lib.hid hz
  clear hz CI
  go_wp2_with fail
  go_ret
  exact ⟨ret_eq (congrArg Value.bool (HZ.out.trans HB.out.symm)), Ex.trans bw bx⟩
end Go.Proofs.Ytgoiidpcdifojaa
