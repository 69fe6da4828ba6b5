/- Wq -/
import Derived.Test.YtmjfnpmnhehnkaaQbl
namespace Go.Proofs.Ytmjfnpmnhehnkaa
open Go.RowKit
/-- bytes in a block of bytes -/
def SN (w : World) (p : Pt) : Prop := p.In w w.heap.size ∧ ∀ a, p.ad = some a → ∃ cs fr, w.heap[a.block]? = some (.cells cs 5 fr)
theorem SN.ext {w w' : World} {p : Pt} (h : SN w p) (k : Ex w w') : SN w' p := ⟨h.1.ext k, fun a e => by obtain ⟨cs, fr, hc⟩ := h.2 a e; exact ⟨cs, fr, k.obj9 hc⟩⟩
theorem SN.kt {S : List Nat} {B : Nat} {w w' : World} {p : Pt} (h : SN w p) (k : Kt S B w w') (hs : 5 ∉ S) : SN w' p := by
  refine ⟨⟨h.1.cap, h.1.nil, fun h0 => ?_⟩, fun a e => by obtain ⟨cs, fr, hc⟩ := h.2 a e; exact ⟨cs, fr, k.typ _ _ _ _ hc hs⟩⟩
  obtain ⟨a, o, e, hB, hc⟩ := h.1.read h0
  obtain ⟨cs, fr, hb⟩ := h.2 _ e
  refine ⟨a, o, e, Nat.lt_of_lt_of_le hB k.size, fun i hi => ?_⟩
  rw [← hc i hi]
  have h2 := k.typ _ _ _ _ hb hs
  simp only [World.cell?, h2, hb]
/-- what is drawn for a request, its bytes a block of its own -/
structure KN (w : World) (x : Kq) : Prop where
  op : i64 x.op
  id : i64 x.id
  pin : i64 x.pin
  own : i64 x.own
  lim : i64 x.lim
  client : i64 x.client
  num : 0 ≤ x.num ∧ x.num < 18446744073709551616
  sec : SN w x.sec
  sz : x.sec.l.length ≤ 64
theorem KN.ext {w w' : World} {x : Kq} (h : KN w x) (k : Ex w w') : KN w' x := { h with sec := h.sec.ext k }
theorem KN.kt {S : List Nat} {B : Nat} {w w' : World} {x : Kq} (h : KN w x) (k : Kt S B w w') (hs : 5 ∉ S) : KN w' x := { h with sec := h.sec.kt k hs }
theorem KN.inn {w : World} {x : Kq} (h : KN w x) : x.In w := ⟨h.op, h.id, h.pin, h.own, h.lim, h.client, h.num.1, h.num.2, h.sec.1, Nat.le_trans h.sz (by decide)⟩
theorem Kq.C_one (x : Kq) : ∀ u ∈ x.C, u.oneCell' = true := by
  intro u hu
  simp only [Kq.C, List.mem_cons, List.not_mem_nil, or_false] at hu
  rcases hu with rfl | rfl | rfl | rfl | rfl | rfl | rfl | rfl <;> rfl
theorem kqflat_at : ∀ (l : List Kq) (i j : Nat) (x : Kq), l[i]? = some x → j < 8 → (l.flatMap Kq.C)[i * 8 + j]? = x.C[j]?
  | [], _, _, _, h, _ => by simp at h
  | y :: r, 0, j, x, h, hj => by
    obtain rfl : y = x := by simpa using h
    rw [List.flatMap_cons, List.getElem?_append_left (by show 0 * 8 + j < 8; omega)]
    congr 1; omega
  | y :: r, i + 1, j, x, h, hj => by
    rw [List.flatMap_cons, List.getElem?_append_right (by show 8 ≤ (i + 1) * 8 + j; omega), show (i + 1) * 8 + j - y.C.length = i * 8 + j from (by show (i + 1) * 8 + j - 8 = i * 8 + j; omega)]
    exact kqflat_at r i j x (by simpa using h) hj
structure KRow (w : World) (B : Nat) (v : Value) (xs : List Kq) : Prop where
  row : w.ownsRow B 76 8 v xs.length (xs.flatMap Kq.C)
  ins : ∀ (i : Nat) (x : Kq), xs[i]? = some x → KN w x
theorem KRow.nil (w : World) (B : Nat) : KRow w B (.slice none 0 0) [] := ⟨World.ownsRow_nil _ _ _ _, fun i x hx => by simp at hx⟩
theorem KRow.ext {w w' : World} {B : Nat} {v : Value} {xs : List Kq} (h : KRow w B v xs) (k : Ex w w') : KRow w' B v xs := ⟨k.row h.row, fun i x hx => (h.ins i x hx).ext k⟩
theorem KRow.inn {w : World} {B : Nat} {v : Value} {xs : List Kq} (h : KRow w B v xs) : ∃ ad cap, v = .slice ad xs.length cap ∧ Kp.In ad cap xs w := by
  obtain ⟨⟨h1, ⟨hv, h0⟩ | ⟨g, cap, cur, rfl, hb, hh, hc, hm, hs, ht⟩⟩, hin⟩ := h
  · exact ⟨none, 0, by rw [h0]; exact hv, ⟨by rw [h0]; exact Nat.le_refl 0, fun _ => rfl, fun i x hx => (hin i x hx).inn, fun h => by omega⟩⟩
  refine ⟨some ⟨g, 0, none⟩, cap, rfl, ⟨hc, (fun h => by cases h), fun i x hx => (hin i x hx).inn, fun _ => ⟨g, 0, rfl, (show Bk w g 76 cur from hh).lt, fun i x hx j u hu => ?_⟩⟩⟩
  have hil : i < xs.length := (List.getElem?_eq_some_iff.1 hx).1
  have hj : j < 8 := (List.getElem?_eq_some_iff.1 hu).1
  have h3 := kqflat_at xs i j x hx hj
  rw [← ht, hu, List.getElem?_take, if_pos (by omega)] at h3
  rw [(show Bk w g 76 cur from hh).cell, Nat.zero_add, ← Array.getElem?_toList]
  exact h3
theorem KRow.app {w w2 : World} {B : Nat} {v v' : Value} {xs : List Kq} {z : Kq} (h : KRow w B v xs) (k : Kt [76] B w w2) (hr : w2.ownsRow B 76 8 v' (xs.length + 1) (xs.flatMap Kq.C ++ z.C)) (hz : KN w z) : KRow w2 B v' (xs ++ [z]) :=
  ⟨by rw [List.length_append, List.flatMap_append]; simpa using hr, fun i x hx => by
    rcases List.mem_append.1 (List.mem_of_getElem? hx) with h1 | h1
    · obtain ⟨j, hj, e⟩ := List.getElem_of_mem h1
      exact (h.ins j x (by rw [List.getElem?_eq_getElem hj, e])).kt k (by decide)
    rw [List.mem_singleton.1 h1]; exact hz.kt k (by decide)⟩
def zeroKq : Value := .agg #[.int .i64 0, .int .i64 0, .int .i64 0, .int .i64 0, .int .i64 0, .int .i64 0, .int .u64 0, .slice none 0 0]
theorem Try.infoKq : (Try.prog.info? 76).map (fun i => (i.zero, i.size, i.bytes)) = some (some zeroKq, 8, 80) := by kernel_rfl
theorem built_kq (a b c d e f : Int) (p : Pt) : Try.prog.built 76 [(0, .int .i64 a), (1, .int .i64 b), (2, .int .i64 c), (3, .int .i64 d), (4, .int .i64 e), (5, .int .i64 f), (7, p.V)] = some (Kq.C ⟨a, b, c, d, e, f, 0, p⟩).toArray := by kernel_rfl
set_option maxRecDepth 100000 in
theorem wp_bskq {o : Oper} {a : Act} {w : World} {K : Act → World → Prop} {Q : Exit → Act → World → Prop} (y : Operand) (x : Kq) (ho : o.op = .buildSlice 74 1 #[(0, y)]) (hy : a.eval y = x.V)
    (hk : K (a.put o.dst (.slice (some ⟨w.heap.size, 0, none⟩) 1 1)) (w.alloc (.cells x.C.toArray 76))) : o.wp Try.prog a w K Q := by
  obtain ⟨op, id, pin, own, lim, client, num, ⟨ad, cap, sec⟩⟩ := x
  have hy : a.eval y = .agg #[.int .i64 op, .int .i64 id, .int .i64 pin, .int .i64 own, .int .i64 lim, .int .i64 client, .int .u64 num, .slice ad sec.length cap] := hy
  unfold Oper.wp
  obtain ⟨ev, hev⟩ : ∃ ev, ev = a.eval := ⟨_, rfl⟩
  rw [← hev] at hy ⊢
  clear hev
  unfold execOp
  simp only [ho]
  simp [hy, go_sem]
  go_simp
  exact hk
set_option maxHeartbeats 8000000 in
set_option maxRecDepth 100000 in
theorem numbers23 (w : World) : Calls Try.prog 8 #[] w fun e w' => e = .returned (.bool true) ∧ Ex w w' := by
  have hcv := fun (w : World) (C : Array Value) (n c : Nat) => Lib.run_convert_bytes_const (P := Try.prog) w 25 5 C n c Try.underlying25 Try.underlying5
  go_enter Try.func8, Try.ntmps8
  go_wp2_with (first | (with_reducible refine stop_bs (t := 61) ?_) | (with_reducible refine stop_bs (t := 25) ?_) | (with_reducible refine stop_bs (t := 74) ?_) | (with_reducible refine stop_app ?_) | (with_reducible refine stop_build (t := 76) ?_))
  go_loopw [1, 2] (fun v i wr => ∃ (k : Nat) (l : List Kq), k ≤ 200 ∧ i = .int .i64 k ∧ Hid (KRow wr w.heap.size v l ∧ l.length = k) ∧ Hid (Ex w wr)) (fun _ i _ => 200 - (intOf i).toNat)
  case atStart => exact ⟨0, [], by omega, rfl, Lib.hid ⟨KRow.nil _ _, rfl⟩, Lib.hid (Ex.refl _)⟩
  case round =>
    obtain ⟨k, l, hk, rfl, VR, BX⟩ := hrel
    by_cases hlt : k < 200
    · have q0 : (0 : Int) ≤ (k : Int) := by omega
      have q1 : (k : Int) < 200 := by omega
      obtain ⟨r, hr⟩ : ∃ r : Nat, r = k % 7 := ⟨_, rfl⟩
      have tm7 : (k : Int).tmod 7 = (r : Int) := by rw [Int.tmod_eq_emod_of_nonneg q0, hr]; omega
      have hr6 : r ≤ 6 := by omega
      obtain ⟨r3, hr3⟩ : ∃ r : Nat, r = k % 3 := ⟨_, rfl⟩
      have tm3 : (k : Int).tmod 3 = (r3 : Int) := by rw [Int.tmod_eq_emod_of_nonneg q0, hr3]; omega
      have hr32 : r3 ≤ 2 := by omega
      obtain ⟨r4, hr4⟩ : ∃ r : Nat, r = k % 4 := ⟨_, rfl⟩
      have tm4 : (k : Int).tmod 4 = (r4 : Int) := by rw [Int.tmod_eq_emod_of_nonneg q0, hr4]; omega
      have hr43 : r4 ≤ 3 := by omega
      obtain ⟨d3, hd3⟩ : ∃ r : Nat, r = k / 3 := ⟨_, rfl⟩
      have td3 : (k : Int).tdiv 3 = (d3 : Int) := by rw [Int.tdiv_eq_ediv_of_nonneg q0, hd3]; omega
      have hd32 : d3 ≤ 200 := by omega
      obtain ⟨m5, hm5⟩ : ∃ r : Nat, r = k * 5 % 120 := ⟨_, rfl⟩
      have tm5 : ((k : Int) * 5).tmod 120 = (m5 : Int) := by rw [Int.tmod_eq_emod_of_nonneg (by omega), hm5]; omega
      have hm52 : m5 ≤ 120 := by omega
      have HR := Lib.hid hr6
      clear hr hr3 hr4 hd3 hm5
      go_wp2_with (first | (with_reducible refine stop_bs (t := 61) ?_) | (with_reducible refine stop_bs (t := 25) ?_) | (with_reducible refine stop_bs (t := 74) ?_) | (with_reducible refine stop_app ?_) | (with_reducible refine stop_build (t := 76) ?_))
      (with_reducible refine ⟨?_⟩)
      go_wp2_with (first | (with_reducible refine stop_load (t := 3) ?_) | (with_reducible refine stop_bs (t := 25) ?_) | (with_reducible refine stop_bs (t := 74) ?_) | (with_reducible refine stop_app ?_) | (with_reducible refine stop_build (t := 76) ?_))
      (with_reducible refine ⟨?_⟩)
      change wpList _ _ _ _ _ (wr.alloc (.cells #[.int .i64 0, .int .i64 1, .int .i64 2, .int .i64 1, .int .i64 3, .int .i64 0, .int .i64 1] 3))
      obtain ⟨op, c0, hop⟩ : ∃ op : Int, (wr.alloc (.cells #[.int .i64 0, .int .i64 1, .int .i64 2, .int .i64 1, .int .i64 3, .int .i64 0, .int .i64 1] 3)).cell? ⟨wr.heap.size, r, none⟩ = some (.int .i64 op) ∧ 0 ≤ op ∧ op ≤ 3 := by
        have hb := Bk.new (g := wr.heap.size) (w := wr) rfl 3 #[.int .i64 0, .int .i64 1, .int .i64 2, .int .i64 1, .int .i64 3, .int .i64 0, .int .i64 1]
        have h := HR.out
        rw [hb.cell]
        rcases (show r = 0 ∨ r = 1 ∨ r = 2 ∨ r = 3 ∨ r = 4 ∨ r = 5 ∨ r = 6 by omega) with rfl | rfl | rfl | rfl | rfl | rfl | rfl <;> exact ⟨_, rfl, by decide, by decide⟩
      have xa : Ex wr (wr.alloc (.cells #[.int .i64 0, .int .i64 1, .int .i64 2, .int .i64 1, .int .i64 3, .int .i64 0, .int .i64 1] 3)) := Ex.alloc _ _
      generalize hw4 : (wr.alloc (.cells #[.int .i64 0, .int .i64 1, .int .i64 2, .int .i64 1, .int .i64 3, .int .i64 0, .int .i64 1] 3)) = w4 at *
      generalize wr.heap.size = g0 at *
      replace VR := Lib.hid (And.intro (VR.out.1.ext xa) VR.out.2)
      replace BX := Lib.hid (Ex.trans BX.out xa)
      clear hw4 xa
      go_wp2_with (first | (with_reducible refine stop_bs (t := 25) ?_) | (with_reducible refine stop_bs (t := 74) ?_) | (with_reducible refine stop_app ?_) | (with_reducible refine stop_build (t := 76) ?_))
      (with_reducible refine ⟨?_⟩)
      go_wp2_with (first | (with_reducible refine stop_bs (t := 74) ?_) | (with_reducible refine stop_app ?_) | (with_reducible refine stop_build (t := 76) ?_))
      (with_reducible refine ⟨?_⟩)
      change wpList _ _ _ _ _ (w4.alloc (.cells #[.int .u8 97, .int .u8 98, .int .u8 99] 5 (3, 4)))
      have xa : Ex w4 (w4.alloc (.cells #[.int .u8 97, .int .u8 98, .int .u8 99] 5 (3, 4))) := Ex.alloc _ _
      have hb : (w4.alloc (.cells #[.int .u8 97, .int .u8 98, .int .u8 99] 5 (3, 4))).heap[w4.heap.size]? = some (.cells #[.int .u8 97, .int .u8 98, .int .u8 99] 5 (3, 4)) := by unfold World.alloc; exact Array.getElem?_push_size
      generalize hw5 : (w4.alloc (.cells #[.int .u8 97, .int .u8 98, .int .u8 99] 5 (3, 4))) = w5 at *
      obtain ⟨g, hg⟩ : ∃ g, g = w4.heap.size := ⟨_, rfl⟩
      rw [← hg] at hb ⊢
      replace VR := Lib.hid (And.intro (VR.out.1.ext xa) VR.out.2)
      replace BX := Lib.hid (Ex.trans BX.out xa)
      have HPN : Hid (SN w5 ⟨some ⟨g, 0, none⟩, 3, [97, 98, 99]⟩) := Lib.hid ⟨⟨Nat.le_refl _, (fun h => by cases h), fun _ => ⟨g, 0, rfl, blk_lt hb, fun i hi => by
          have hi : i < 3 := hi
          simp only [World.cell?, hb]
          rcases (show i = 0 ∨ i = 1 ∨ i = 2 by omega) with rfl | rfl | rfl <;> rfl⟩⟩, fun a e => by cases e; exact ⟨_, _, hb⟩⟩
      clear hw5 hg hb xa
      (with_reducible refine at_any ?_ ?_); (focus go_simp); refine fun K0 hK => wp_build _ _ rfl _ (built_kq op (m5 : Int) (r3 : Int) (d3 : Int) (1 + (r3 : Int)) (r4 : Int) ⟨some ⟨g, 0, none⟩, 3, [97, 98, 99]⟩) (hK _ _ ?_)
      clear hK
      obtain ⟨X, hX⟩ : ∃ X : Kq, X = ⟨op, (m5 : Int), (r3 : Int), (d3 : Int), 1 + (r3 : Int), (r4 : Int), 0, ⟨some ⟨g, 0, none⟩, 3, [97, 98, 99]⟩⟩ := ⟨_, rfl⟩
      rw [← hX]
      have HXO : Hid (KN w5 X) := Lib.hid (by
        rw [hX]
        have h0 := hop.1
        have h1 := hop.2
        exact ⟨by unfold i64; show _ ≤ op ∧ op ≤ _; omega, by unfold i64; show _ ≤ (m5 : Int) ∧ (m5 : Int) ≤ _; omega, by unfold i64; show _ ≤ (r3 : Int) ∧ (r3 : Int) ≤ _; omega, by unfold i64; show _ ≤ (d3 : Int) ∧ (d3 : Int) ≤ _; omega, by unfold i64; show _ ≤ 1 + (r3 : Int) ∧ 1 + (r3 : Int) ≤ _; omega, by unfold i64; show _ ≤ (r4 : Int) ∧ (r4 : Int) ≤ _; omega, ⟨Int.le_refl _, by show (0 : Int) < _; decide⟩, HPN.out, by show 3 ≤ 64; decide⟩)
      clear hX HPN
      go_wp2_with (first | (with_reducible refine stop_bs (t := 74) ?_) | (with_reducible refine stop_app ?_) | (with_reducible refine stop_build (t := 76) ?_))
      (with_reducible refine at9 ?_ ?_); (focus go_simp); refine fun K0 hK => wp_bskq _ X rfl rfl (hK _ _ ?_)
      clear hK
      have xa := Ex.alloc w5 (.cells X.C.toArray 76)
      have NB := Lib.hid (Bk.new (g := w5.heap.size) (w := w5) rfl 76 X.C.toArray)
      replace HXO := Lib.hid (HXO.out.ext xa)
      replace VR := Lib.hid (And.intro (VR.out.1.ext xa) VR.out.2)
      replace BX := Lib.hid (Ex.trans BX.out xa)
      generalize hw6 : w5.alloc (.cells X.C.toArray 76) = w6 at *
      obtain ⟨g2, hg⟩ : ∃ g, g = w5.heap.size := ⟨_, rfl⟩
      rw [← hg] at NB ⊢
      clear hw6 hg xa
      have MR := Lib.hid (Many.rd (n := 1) (sz := 8) ⟨g2, rfl, NB.out⟩ (show X.C.length = 1 * 8 from rfl))
      go_wp2_with (first | (with_reducible refine stop_bs (t := 74) ?_) | (with_reducible refine stop_app ?_) | (with_reducible refine stop_build (t := 76) ?_))
      obtain ⟨adx, ex, nx, rx⟩ := MR.out
      cases ex
      have RX := Lib.hid rx
      clear rx nx MR
      (with_reducible refine at9 ?_ ?_); (focus go_simp); refine fun K0 hK => wp_rd _ _ 74 76 zeroKq 8 80 rfl Try.underlying74 Try.infoKq rfl (by decide) w.heap.size l.length _ _ rfl VR.out.1.row BX.out.sz' _ 1 1 _ rfl RX.out (Nat.le_refl _) (fun h => by cases h) (Kq.C_one X) (by have := VR.out.2; omega) (by have := VR.out.2; omega) (fun v5 w7 r1 r2 => hK _ _ ?_)
      clear hK
      replace BX := Lib.hid (show Ex w w7 from Below.trans (show Below w.heap.size w _ from BX.out) r2.below)
      have VR2 : Hid (KRow w7 w.heap.size v5 (l ++ [X]) ∧ (l ++ [X]).length = k + 1) := Lib.hid ⟨VR.out.1.app r2 r1 HXO.out, by rw [List.length_append, VR.out.2]; rfl⟩
      clear r1 r2 hop c0
      go_wp2_with (first | (with_reducible refine stop_bs (t := 74) ?_) | (with_reducible refine stop_app ?_) | (with_reducible refine stop_build (t := 76) ?_))
      go_roundw
      case rel => exact ⟨k + 1, l ++ [X], by omega, by go_num, VR2, BX⟩
      case measure => simp [intOf]; omega
    obtain rfl : k = 200 := by omega
    obtain ⟨ad, cap, hv, hin⟩ := VR.out.1.inn
    have HIN := Lib.hid hin
    have HL200 := Lib.hid VR.out.2
    clear hin
    go_wp2_with fail
    rw [hv]
    clear hv VR
    have CP := play_any ad cap l (by rw [HL200.out]; decide) none 0 [] (by decide) 200 (by decide) wr HIN.out ⟨Nat.le_refl _, fun _ => rfl, fun i x hx => by simp at hx, fun h => absurd h (Nat.lt_irrefl 0)⟩
    refine CP.mono ?_
    rintro e w1 ⟨rfl, x1⟩
    replace BX := Lib.hid (Ex.trans BX.out x1)
    clear CP x1
    go_wp2_with fail
    refine (known23 w1).mono ?_
    rintro e w2 ⟨rfl, x2⟩
    replace BX := Lib.hid (Ex.trans BX.out x2)
    clear x2
    go_wp2_with fail
    go_ret
    exact ⟨rfl, BX.out⟩
end Go.Proofs.Ytmjfnpmnhehnkaa
