/- endorse.Key and the statements' own key -/
import Derived.Test.YtgoiidpcdifojaaHpA
import Derived.Test.YtgoiidpcdifojaaBlE
import Derived.Test.YtgoiidpcdifojaaRoE
namespace Go.Proofs.Ytgoiidpcdifojaa.Sm
open Go.RowKit
theorem stop_load59 {P : Program} {ops : Array Oper} {rest : List Oper} {d : Option Tmp} {x : Operand} {t2 : TypeId} {pos : String} {af : Array Edge} {g : Option (Nat × Bool)} {a : Act} {w : World} {Q : Exit → Act → World → Prop}
    (k : Stop (wpList P ops Q ({ dst := d, op := .load 59 x, type := t2, pos := pos, after := af, guard := g } :: rest) a w)) : wpList P ops Q ({ dst := d, op := .load 59 x, type := t2, pos := pos, after := af, guard := g } :: rest) a w := k.go
theorem stop_store59 {P : Program} {ops : Array Oper} {rest : List Oper} {d : Option Tmp} {x y : Operand} {t2 : TypeId} {pos : String} {af : Array Edge} {g : Option (Nat × Bool)} {a : Act} {w : World} {Q : Exit → Act → World → Prop}
    (k : Stop (wpList P ops Q ({ dst := d, op := .store 59 x y, type := t2, pos := pos, after := af, guard := g } :: rest) a w)) : wpList P ops Q ({ dst := d, op := .store 59 x y, type := t2, pos := pos, after := af, guard := g } :: rest) a w := k.go
theorem one_byte (w : World) (b : UInt8) : (Pt.mk (some ⟨w.heap.size, 0, none⟩) 1 [b]).In (w.alloc (.cells #[.int .u8 (b.toNat : Int)] 5)) (w.alloc (.cells #[.int .u8 (b.toNat : Int)] 5)).heap.size :=
  bk_pt (t := 5) (l := [b]) (Bk.new rfl _ _)
set_option maxHeartbeats 4000000 in
set_option maxRecDepth 100000 in
theorem key_any (K : List UInt8) (hK : K.length = 16) (m : Int) (w : World) :
    Calls Try.prog 40 #[digV K, .int .i64 m] w fun e w' => e = .returned (digV (sumL (K ++ [by8 m]))) ∧ Below w.heap.size w w' := by
  have CK := Lib.hid (fun (p : Pt) (W : World) (h : p.In W W.heap.size) (hl : p.l = [by8 m]) => (show Calls Try.prog 58 #[digV K, p.V] W fun e w' => e = .returned (digV (sumL (K ++ [by8 m]))) ∧ Below W.heap.size W w' by
    rw [← hl]; exact keyed_any K hK p W h (by rw [hl]; show 1 ≤ _; decide)))
  have HS := Lib.hid (show (sumL (K ++ [by8 m])).length = 16 from rfl)
  have HB8 := Lib.hid (by8_int m)
  obtain ⟨S, hS⟩ : ∃ S, S = sumL (K ++ [by8 m]) := ⟨_, rfl⟩
  rw [← hS] at CK HS ⊢
  obtain ⟨cs, hcs⟩ : ∃ cs, cs = (Lib.byteCells K).toArray := ⟨_, rfl⟩
  have d0 : Hid (DB ((w.alloc (.cells cs 59)).alloc (.cells zero16 59)) w.heap.size K) := Lib.hid ⟨hK, by rw [hcs]; exact (Bk.new rfl _ _).more _⟩
  have z0 : Hid (Bk ((w.alloc (.cells cs 59)).alloc (.cells zero16 59)) (w.heap.size + 1) 59 zero16) := Lib.hid (Bk.new (by simp) _ _)
  have BW := Lib.hid (show Below w.heap.size w ((w.alloc (.cells cs 59)).alloc (.cells zero16 59)) from ((Below.refl _ _).alloc (Nat.le_refl _) _).alloc (by simp) _)
  rw [show (Calls Try.prog 40 #[digV K, .int .i64 m] w) = (Calls Try.prog 40 #[.agg cs, .int .i64 m] w) by rw [hcs]; rfl]
  have hdv : Value.agg cs = digV K := by rw [hcs]; rfl
  have HDV := Lib.hid hdv
  clear hS hcs hK hdv
  go_enter Try.func40, Try.ntmps40
  go_wp2_with (first | (with_reducible refine stop_load59 ?_) | (with_reducible refine stop_store59 ?_))
  have bw := BW.out
  generalize hw1 : (w.alloc (.cells cs 59)).alloc (.cells _ 59) = w1
  have D1 : Hid (DB w1 w.heap.size K) := by rw [← hw1]; exact d0
  have Z1 : Hid (Bk w1 (w.heap.size + 1) 59 zero16) := by rw [← hw1]; exact z0
  have bw1 : Below w.heap.size w w1 := by rw [← hw1]; exact bw
  obtain ⟨B, hB⟩ : ∃ B, B = w.heap.size := ⟨_, rfl⟩
  rw [← hB] at D1 Z1 ⊢
  have HB := Lib.hid hB
  clear hw1 bw BW d0 z0 hB
  (with_reducible refine ⟨?_⟩); (with_reducible refine at_any ?_ ?_); (focus go_simp); refine fun K0 hK => wp_ld _ B K rfl rfl D1.out (hK _ _ ?_)
  clear hK
  have pin := Lib.hid (one_byte w1 (by8 m))
  have xa : Below w1.heap.size w1 (w1.alloc (.cells #[.int .u8 ((by8 m).toNat : Int)] 5)) := (Below.refl _ _).alloc (Nat.le_refl _) _
  have cc := CK.out _ _ pin.out rfl
  rw [HB8.out] at xa cc
  have CC := Lib.hid cc
  have XA := Lib.hid xa
  clear cc xa pin CK
  go_wp2_with (first | (with_reducible refine stop_load59 ?_) | (with_reducible refine stop_store59 ?_))
  refine CC.out.mono ?_
  rintro e w2 ⟨rfl, x2⟩
  have xx : Below w1.heap.size w1 w2 := Below.trans XA.out (x2.mono XA.out.size)
  have Z2 := Lib.hid (Z1.out.under xx Z1.out.lt)
  have lt := Lib.hid (Nat.lt_of_succ_lt Z1.out.lt)
  have bw2 : Below w.heap.size w w2 := bw1.trans (xx.mono (by rw [← HB.out]; exact Nat.le_of_lt lt.out))
  clear xx x2 XA CC Z1 D1 bw1
  go_wp2_with (first | (with_reducible refine stop_load59 ?_) | (with_reducible refine stop_store59 ?_))
  (with_reducible refine ⟨?_⟩); (with_reducible refine at_any ?_ ?_); (focus go_simp); refine fun K0 hK => wp_st _ _ (B + 1) S rfl rfl rfl HS.out Z2.out rfl (fun w3 hd ho => hK _ _ ?_)
  have bw3 := ho.below w.heap.size (by rw [← HB.out]; omega) w bw2
  clear hK ho
  go_wp2_with (first | (with_reducible refine stop_load59 ?_) | (with_reducible refine stop_store59 ?_))
  exact bodyPost_ret (res_dig rfl _ _ (B + 1) rfl S hd) rfl ⟨rfl, bw3⟩
set_option maxHeartbeats 4000000 in
set_option maxRecDepth 100000 in
theorem rkey_any (K : List UInt8) (hK : K.length = 16) (m : Int) (w : World) :
    Calls Try.prog 41 #[digV K, .int .i64 m] w fun e w' => e = .returned (digV (sumL (K ++ [by8 m]))) ∧ Below w.heap.size w w' := by
  have CK := Lib.hid (fun (p : Pt) (W : World) (h : p.In W W.heap.size) (hl : p.l = [by8 m]) => (show Calls Try.prog 59 #[digV K, p.V] W fun e w' => e = .returned (digV (sumL (K ++ [by8 m]))) ∧ Below W.heap.size W w' by
    rw [← hl]; exact rkeyed_any K hK p W h (by rw [hl]; show 1 ≤ _; decide)))
  have HS := Lib.hid (show (sumL (K ++ [by8 m])).length = 16 from rfl)
  have HB8 := Lib.hid (by8_int m)
  obtain ⟨S, hS⟩ : ∃ S, S = sumL (K ++ [by8 m]) := ⟨_, rfl⟩
  rw [← hS] at CK HS ⊢
  obtain ⟨cs, hcs⟩ : ∃ cs, cs = (Lib.byteCells K).toArray := ⟨_, rfl⟩
  have d0 : Hid (DB ((w.alloc (.cells cs 59)).alloc (.cells zero16 59)) w.heap.size K) := Lib.hid ⟨hK, by rw [hcs]; exact (Bk.new rfl _ _).more _⟩
  have z0 : Hid (Bk ((w.alloc (.cells cs 59)).alloc (.cells zero16 59)) (w.heap.size + 1) 59 zero16) := Lib.hid (Bk.new (by simp) _ _)
  have BW := Lib.hid (show Below w.heap.size w ((w.alloc (.cells cs 59)).alloc (.cells zero16 59)) from ((Below.refl _ _).alloc (Nat.le_refl _) _).alloc (by simp) _)
  rw [show (Calls Try.prog 41 #[digV K, .int .i64 m] w) = (Calls Try.prog 41 #[.agg cs, .int .i64 m] w) by rw [hcs]; rfl]
  have hdv : Value.agg cs = digV K := by rw [hcs]; rfl
  have HDV := Lib.hid hdv
  clear hS hcs hK hdv
  go_enter Try.func41, Try.ntmps41
  go_wp2_with (first | (with_reducible refine stop_load59 ?_) | (with_reducible refine stop_store59 ?_))
  have bw := BW.out
  generalize hw1 : (w.alloc (.cells cs 59)).alloc (.cells _ 59) = w1
  have D1 : Hid (DB w1 w.heap.size K) := by rw [← hw1]; exact d0
  have Z1 : Hid (Bk w1 (w.heap.size + 1) 59 zero16) := by rw [← hw1]; exact z0
  have bw1 : Below w.heap.size w w1 := by rw [← hw1]; exact bw
  obtain ⟨B, hB⟩ : ∃ B, B = w.heap.size := ⟨_, rfl⟩
  rw [← hB] at D1 Z1 ⊢
  have HB := Lib.hid hB
  clear hw1 bw BW d0 z0 hB
  (with_reducible refine ⟨?_⟩); (with_reducible refine at_any ?_ ?_); (focus go_simp); refine fun K0 hK => wp_ld _ B K rfl rfl D1.out (hK _ _ ?_)
  clear hK
  have pin := Lib.hid (one_byte w1 (by8 m))
  have xa : Below w1.heap.size w1 (w1.alloc (.cells #[.int .u8 ((by8 m).toNat : Int)] 5)) := (Below.refl _ _).alloc (Nat.le_refl _) _
  have cc := CK.out _ _ pin.out rfl
  rw [HB8.out] at xa cc
  have CC := Lib.hid cc
  have XA := Lib.hid xa
  clear cc xa pin CK
  go_wp2_with (first | (with_reducible refine stop_load59 ?_) | (with_reducible refine stop_store59 ?_))
  refine CC.out.mono ?_
  rintro e w2 ⟨rfl, x2⟩
  have xx : Below w1.heap.size w1 w2 := Below.trans XA.out (x2.mono XA.out.size)
  have Z2 := Lib.hid (Z1.out.under xx Z1.out.lt)
  have lt := Lib.hid (Nat.lt_of_succ_lt Z1.out.lt)
  have bw2 : Below w.heap.size w w2 := bw1.trans (xx.mono (by rw [← HB.out]; exact Nat.le_of_lt lt.out))
  clear xx x2 XA CC Z1 D1 bw1
  go_wp2_with (first | (with_reducible refine stop_load59 ?_) | (with_reducible refine stop_store59 ?_))
  (with_reducible refine ⟨?_⟩); (with_reducible refine at_any ?_ ?_); (focus go_simp); refine fun K0 hK => wp_st _ _ (B + 1) S rfl rfl rfl HS.out Z2.out rfl (fun w3 hd ho => hK _ _ ?_)
  have bw3 := ho.below w.heap.size (by rw [← HB.out]; omega) w bw2
  clear hK ho
  go_wp2_with (first | (with_reducible refine stop_load59 ?_) | (with_reducible refine stop_store59 ?_))
  exact bodyPost_ret (res_dig rfl _ _ (B + 1) rfl S hd) rfl ⟨rfl, bw3⟩
end Go.Proofs.Ytgoiidpcdifojaa.Sm
