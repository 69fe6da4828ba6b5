/- Vy -/
import Derived.Test.YtmjfnpmnhehnkaaXav
namespace Go.Proofs.Ytmjfnpmnhehnkaa
open Go.RowKit
theorem built_id (x : UInt8) : Try.prog.built 32 [(0, .int .u8 x.toNat), (1, .int .u8 7)] = some (Lib.byteCells [x, 7, 0, 0]).toArray := by kernel_rfl
set_option maxHeartbeats 4000000 in
set_option maxRecDepth 100000 in
theorem id_any (n : Int) (hn : -9223372036854775808 ≤ n ∧ n ≤ 9223372036854775807) (w : World) : Calls Try.prog 32 #[.int .i64 n] w (DigPost 4 w) := by
 have CW := Hi (fun w1 => within_any n 0 255 hn (by omega) (by omega) (by omega) w1)
 go_enter Try.func32, Try.ntmps32
 go_wp2_with ((with_reducible refine so0 ?_ ?_); (focus rfl))
 refine (CW.out _).mono ?_
 rintro e w2 ⟨m, rfl, h1, h2, rfl⟩
 obtain ⟨x, hx⟩ := u8_of m
 have em : m % 256 = m := Int.emod_eq_of_lt h1 (by omega)
 rw [em] at hx
 have HX := Hi hx
 have hc : IntKind.u8.wrap m = m := em
 have HC := Hi hc
 clear hx em CW hn
 go_wp2_with ((with_reducible refine so0 ?_ ?_); (focus rfl))
 refine at9 (by go_simp) fun K0 hK => wp_build _ _ rfl _ ((show Try.prog.built 32 [(0, .int .u8 m), (1, .int .u8 7)] = some (Lib.byteCells [x, 7, 0, 0]).toArray from by rw [← HX.out]; exact built_id x)) (hK _ _ ?_)
 clear hK
 go_wp2_with ((with_reducible refine so0 ?_ ?_); (focus rfl))
 refine at9 (by go_simp) fun K0 hK => st_new _ _ w.heap.size [x, 7, 0, 0] _ rfl rfl rfl (Bk.new rfl _ _) rfl Try.sizeId (fun w3 hd ho => hK _ _ ?_)
 clear hK
 have X := ho.below w.heap.size (Nat.le_refl _) w (Ex.alloc w _)
 clear ho
 go_wp2_with fail
 exact bodyPost_ret (res_dig rfl _ _ w.heap.size rfl hd Try.underlying32 rfl Try.sizeId) rfl ⟨[x, 7, 0, 0], rfl, rfl, X⟩
/-- what is drawn for a request -/
structure Kq where
 op : Int
 id : Int
 pin : Int
 own : Int
 lim : Int
 client : Int
 num : Int
 sec : Pt
def Kq.C (x : Kq) : List Value := [.int .i64 x.op, .int .i64 x.id, .int .i64 x.pin, .int .i64 x.own, .int .i64 x.lim, .int .i64 x.client, .int .u64 x.num, x.sec.V]
def Kq.V (x : Kq) : Value := .agg x.C.toArray
structure Kq.In (x : Kq) (w : World) : Prop where
 op : i64 x.op
 id : i64 x.id
 pin : i64 x.pin
 own : i64 x.own
 lim : i64 x.lim
 client : i64 x.client
 num0 : 0 ≤ x.num
 num1 : x.num < 18446744073709551616
 sec : x.sec.In w w.heap.size
 sz : x.sec.l.length ≤ 9223372036854775807
theorem Kq.In.ext {x : Kq} {w w' : World} (h : x.In w) (k : Ex w w') : x.In w' := { h with sec := h.sec.ext k }
def KB (w : World) (g : Nat) (x : Kq) : Prop := Bk w g 76 x.C.toArray
theorem KB.ext {w w' : World} {g : Nat} {x : Kq} (h : KB w g x) (k : Ex w w') : KB w' g x := Bk.ext h k
theorem Only.kb {g h : Nat} {w w' : World} {x : Kq} (k : Only g w w') (hb : KB w h x) (hne : h ≠ g) : KB w' h x := k.bk hb hne
theorem KB.cells {w : World} {g : Nat} {x : Kq} (h : KB w g x) : w.cell? ⟨g, 0, none⟩ = some (.int .i64 x.op) ∧ w.cell? ⟨g, 1, none⟩ = some (.int .i64 x.id) ∧ w.cell? ⟨g, 2, none⟩ = some (.int .i64 x.pin) ∧ w.cell? ⟨g, 3, none⟩ = some (.int .i64 x.own) ∧ w.cell? ⟨g, 4, none⟩ = some (.int .i64 x.lim) ∧ w.cell? ⟨g, 5, none⟩ = some (.int .i64 x.client) ∧ w.cell? ⟨g, 6, none⟩ = some (.int .u64 x.num) ∧ w.cell? ⟨g, 7, none⟩ = some (.slice x.sec.ad x.sec.l.length x.sec.cap) :=
 ⟨(Bk.cell h 0).trans rfl, (Bk.cell h 1).trans rfl, (Bk.cell h 2).trans rfl, (Bk.cell h 3).trans rfl, (Bk.cell h 4).trans rfl, (Bk.cell h 5).trans rfl, (Bk.cell h 6).trans rfl, (Bk.cell h 7).trans rfl⟩
def zeroQt : Qt := ⟨0, z4, z16, nilB, 0, z16, z16, 0, 0⟩
/-- a request at its beginning -/
structure Q0 (q : Qt) : Prop where
 ok : q.Ok
 op1 : 1 ≤ q.op
 op4 : q.op ≤ 4
 c0 : 0 ≤ q.client
 c1 : q.client < 4
 num : q.num ≤ 1099511627776
 pin : q.pin = z16
 own : q.own = z16
 lim : q.lim = 0
 sec : q.sec = nilB
theorem built_q (op : Int) (id key : List UInt8) (c n : Int) (h1 : id.length = 4) (h2 : key.length = 16) : Try.prog.built 86 [(0, .int .i64 op), (1, digV id), (6, digV key), (7, .int .i64 c), (8, .int .u64 n)] = some (Qt.mk op id z16 nilB 0 z16 key c n).C.toArray := by
 obtain ⟨a, b, c, d, rfl⟩ := len4 h1
 obtain ⟨_, _, _, _, _, _, _, _, _, _, _, _, _, _, _, _, rfl⟩ := len16 h2
 kernel_rfl
theorem q0_mk {op : Int} {id key : List UInt8} {c n : Int} (h1 : id.length = 4) (h2 : key.length = 16) (o1 : 1 ≤ op) (o4 : op ≤ 4) (c0 : 0 ≤ c) (c1 : c < 4) (n0 : 0 ≤ n) (n1 : n ≤ 1099511627776) : Q0 (Qt.mk op id z16 nilB 0 z16 key c n) := by
 refine ⟨⟨?_, ?_, h1, rfl, ?_, ?_, rfl, h2, ?_, ?_, n0, ?_⟩, o1, o4, c0, c1, n1, rfl, rfl, rfl, rfl⟩
 all_goals (simp only; omega)
def KPost (w : World) (e : Ending) (w' : World) : Prop := ∃ q : Qt, e = .returned q.V ∧ QI w' q ∧ q.ct.right = true ∧ Ex w w'
def KPost2 (w : World) (e : Ending) (w' : World) : Prop := ∃ q : Qt, e = .returned q.V ∧ QI w' q ∧ q.ct.right = true ∧ Ex w w' ∧ PN w' 0 q.sec
theorem right_kept {q : Qt} (h0 : 0 ≤ q.client) (h1 : q.client < 4) (h2 : q.num ≤ 1099511627776) (ho : q.op = 1 ∨ q.op = 3) (h3 : 1 ≤ q.lim) (h4 : q.lim ≤ 32) (h5 : q.sec.l.length ≤ 64) : q.ct.right = true := by
 unfold Qc.right
 rw [if_pos (show q.ct.op = 1 ∨ q.ct.op = 3 from ho)]
 simp only [Bool.and_eq_true, decide_eq_true_eq]
 exact ⟨⟨h0, h1, h2⟩, ⟨h3, h4⟩, h5⟩
theorem right_rec {q : Qt} (h0 : 0 ≤ q.client) (h1 : q.client < 4) (h2 : q.num ≤ 1099511627776) (ho : q.op = 2) (h3 : q.lim = 0) (h4 : q.own = z16) (h5 : q.sec.l = []) : q.ct.right = true := by
 unfold Qc.right
 rw [if_neg (by show ¬ (q.op = 1 ∨ q.op = 3); omega), if_pos (show q.ct.op = 2 from ho)]
 simp only [Bool.and_eq_true, decide_eq_true_eq]
 exact ⟨⟨h0, h1, h2⟩, ⟨h3, h4⟩, h5⟩
theorem right_rem {q : Qt} (h0 : 0 ≤ q.client) (h1 : q.client < 4) (h2 : q.num ≤ 1099511627776) (ho : q.op = 4) (h3 : q.lim = 0) (h4 : q.pin = z16) (h5 : q.sec.l = []) : q.ct.right = true := by
 unfold Qc.right
 rw [if_neg (by show ¬ (q.op = 1 ∨ q.op = 3); omega), if_neg (by show ¬ q.op = 2; omega), if_pos (show q.ct.op = 4 from ho)]
 simp only [Bool.and_eq_true, decide_eq_true_eq]
 exact ⟨⟨h0, h1, h2⟩, ⟨h3, h4⟩, h5⟩
theorem wrap_lo (n : Int) : -9223372036854775808 ≤ IntKind.i64.wrap n := by
 unfold IntKind.wrap
 simp only [IntKind.bits, IntKind.signed]
 simp
 split <;> omega
theorem wrap_hi (n : Int) : IntKind.i64.wrap n ≤ 9223372036854775807 := by
 unfold IntKind.wrap
 simp only [IntKind.bits, IntKind.signed]
 simp
 split <;> omega
set_option maxHeartbeats 4000000 in
set_option maxRecDepth 100000 in
theorem req2_any (x : Kq) (w : World) (hx : x.In w) : Calls Try.prog 40 #[x.V] w (KPost2 w) := by
 have HX := Hi hx
 have CW := Hi (fun n hn w1 => within_any n 0 1048576 hn (by omega) (by omega) (by omega) w1)
 have CC := Hi (fun n hn w1 => within_any n 0 3 hn (by omega) (by omega) (by omega) w1)
 have CL := Hi (fun n hn w1 => within_any n 1 32 hn (by omega) (by omega) (by omega) w1)
 have CI := Hi (fun n hn w1 => id_any n hn w1)
 have CD := Hi (fun n hn w1 => d_any n hn w1)
 have CX := Hi (fun w1 (k : Ex w w1) => cut_any x.sec 64 (by omega) (by omega) hx.sz w1 (hx.ext k).sec)
 obtain ⟨cs, hcs⟩ : ∃ cs, cs = x.C.toArray := ⟨_, rfl⟩
 have A0 : Hid (KB ((w.alloc (.cells cs 76)).alloc (.cells zeroQt.C.toArray 86)) w.heap.size x) := Hi (by rw [hcs]; exact (Bk.new rfl _ _).more _)
 have Z0 : Hid (QB ((w.alloc (.cells cs 76)).alloc (.cells zeroQt.C.toArray 86)) (w.heap.size + 1) zeroQt) := Hi ⟨⟨by decide, by decide, rfl, rfl, by decide, by decide, rfl, rfl, by decide, by decide, by decide, by decide⟩, Bk.new (by simp) _ _⟩
 have BW : Hid (Ex w ((w.alloc (.cells cs 76)).alloc (.cells zeroQt.C.toArray 86))) := Hi (Ex.trans (Ex.alloc w _) (Ex.alloc _ _))
 rw [show (Calls Try.prog 40 #[x.V] w) = (Calls Try.prog 40 #[.agg cs] w) by rw [hcs]; rfl]
 clear hcs hx
 go_enter Try.func40, Try.ntmps40
 go_wp2_with ((with_reducible refine so3 [1000+3, 1000+25] ?_ ?_); (focus rfl))
 change Code.wp _ _ _ _ ((w.alloc (.cells cs 76)).alloc (.cells zeroQt.C.toArray 86))
 generalize hw1 : ((w.alloc (.cells cs 76)).alloc (.cells zeroQt.C.toArray 86)) = w1 at *
 clear hw1
 obtain ⟨B, hB⟩ : ∃ B, B = w.heap.size := ⟨_, rfl⟩
 rw [← hB] at A0 Z0 ⊢
 have HB := Hi hB
 clear hB
 have W1 : Hid (B + 2 ≤ w1.heap.size) := Hi Z0.out.lt
 obtain ⟨T, hT⟩ : ∃ T : List Ar, T = [.is (.pointer (some ⟨B, 0, none⟩)), .is (.int .i64 x.op), .intb .i64 (0) (1048576), .intb .i64 (0) (3), .intb .i64 (1) (4), .is (.pointer (some ⟨B, 1, none⟩)), .is (.int .i64 x.id), .dig 4, .is (.pointer (some ⟨B, 5, none⟩)), .is (.int .i64 x.client), .intb .i64 (-9223372036854775808) (9223372036854775807), .dig 16, .is (.pointer (some ⟨B, 5, none⟩)), .is (.int .i64 x.client), .intb .i64 (0) (3), .is (.pointer (some ⟨B, 6, none⟩)), .is (.int .u64 x.num), .intb .u64 (0) (1099511627776), .sat (fun v => ∃ q : Qt, v = q.V ∧ Q0 q), .blk (B + 2) 86 zeroQt.C.toArray] := ⟨_, rfl⟩
 refine wp_region_flow 20 (arPhi T) (by kernel_rfl) rfl (by kernel_rfl) (by kernel_rfl) (by kernel_rfl) (arPhi_stable T) (fitB_spec (by kernel_rfl)) ?_ ?_
 ·intro i o hi ho
  have hi' : i = 0 ∨ i = 1 ∨ i = 2 ∨ i = 3 ∨ i = 4 ∨ i = 5 ∨ i = 6 ∨ i = 7 ∨ i = 8 ∨ i = 9 ∨ i = 10 ∨ i = 11 ∨ i = 12 ∨ i = 13 ∨ i = 14 ∨ i = 15 ∨ i = 16 ∨ i = 17 ∨ i = 18 ∨ i = 19 := by omega
  clear hi
  rcases hi' with rfl | rfl | rfl | rfl | rfl | rfl | rfl | rfl | rfl | rfl | rfl | rfl | rfl | rfl | rfl | rfl | rfl | rfl | rfl | rfl
  all_goals (simp only [List.getElem?_toArray, List.getElem?_cons_zero, List.getElem?_cons_succ, Option.some.injEq] at ho; subst ho; intro a w2 hx hsz hdep hout)
  ·rw [if_pos (by rfl)]
   intro K hK
   have q1 := hout 1 (outB_spec (by kernel_rfl))
   rw [Array.getD_eq_getD_getElem?] at q1
   clear hsz hdep hout
   go_simp
   exact hK _ _ (Ex.refl _) (by rw [hT]; rfl)
  ·rw [if_pos (by rfl)]
   intro K hK
   obtain ⟨v4, h4, k4⟩ := hdep ⟨0, .data⟩ (by simp) rfl _ rfl
   have q4 := k4 _ rfl
   clear k4
   rw [hT] at h4
   obtain rfl : v4 = .pointer (some ⟨B, 0, none⟩) := h4
   have c1 := (A0.out.ext (Ex.trans (show Ex w1 (World.drew w1) from (Below.refl _ _).drew) hx)).cells.1
   rw [Array.getD_eq_getD_getElem?] at q4
   clear hsz hdep hout
   go_simp
   exact hK _ _ (Ex.refl _) (by rw [hT]; rfl)
  ·rw [if_pos (by rfl)]
   intro K hK
   obtain ⟨v5, h5, k5⟩ := hdep ⟨1, .data⟩ (by simp) rfl _ rfl
   have q5 := k5 _ rfl
   clear k5
   rw [hT] at h5
   obtain rfl : v5 = .int .i64 x.op := h5
   rw [Array.getD_eq_getD_getElem?] at q5
   clear hsz hdep hout
   go_simp
   refine (CW.out _ HX.out.op w2).mono ?_
   rintro e w3 ⟨m, rfl, h1, h2, rfl⟩
   exact hK _ _ (Ex.refl _) (by rw [hT]; exact ⟨m, rfl, h1, h2⟩)
  ·rw [if_pos (by rfl)]
   intro K hK
   obtain ⟨v6, h6, k6⟩ := hdep ⟨2, .data⟩ (by simp) rfl _ rfl
   have q6 := k6 _ rfl
   clear k6
   rw [hT] at h6
   obtain ⟨m6, rfl, e6, b6⟩ := h6
   have hm := e6
   rw [Array.getD_eq_getD_getElem?] at q6
   clear hsz hdep hout
   go_simp
   rw [Int.tmod_eq_emod_of_nonneg hm]
   exact hK _ _ (Ex.refl _) (by rw [hT]; exact ⟨_, rfl, by omega, by omega⟩)
  ·rw [if_pos (by rfl)]
   intro K hK
   obtain ⟨v7, h7, k7⟩ := hdep ⟨3, .data⟩ (by simp) rfl _ rfl
   have q7 := k7 _ rfl
   clear k7
   rw [hT] at h7
   obtain ⟨m7, rfl, e7, b7⟩ := h7
   have hm := e7
   have hm2 := b7
   rw [Array.getD_eq_getD_getElem?] at q7
   clear hsz hdep hout
   go_simp
   simp (disch := omega) only [IntWalk.i64_in]
   exact hK _ _ (Ex.refl _) (by rw [hT]; exact ⟨_, rfl, by omega, by omega⟩)
  ·rw [if_pos (by rfl)]
   intro K hK
   have q1 := hout 1 (outB_spec (by kernel_rfl))
   rw [Array.getD_eq_getD_getElem?] at q1
   clear hsz hdep hout
   go_simp
   exact hK _ _ (Ex.refl _) (by rw [hT]; rfl)
  ·rw [if_pos (by rfl)]
   intro K hK
   obtain ⟨v9, h9, k9⟩ := hdep ⟨5, .data⟩ (by simp) rfl _ rfl
   have q9 := k9 _ rfl
   clear k9
   rw [hT] at h9
   obtain rfl : v9 = .pointer (some ⟨B, 1, none⟩) := h9
   have c1 := (A0.out.ext (Ex.trans (show Ex w1 (World.drew w1) from (Below.refl _ _).drew) hx)).cells.2.1
   rw [Array.getD_eq_getD_getElem?] at q9
   clear hsz hdep hout
   go_simp
   exact hK _ _ (Ex.refl _) (by rw [hT]; rfl)
  ·rw [if_pos (by rfl)]
   intro K hK
   obtain ⟨v10, h10, k10⟩ := hdep ⟨6, .data⟩ (by simp) rfl _ rfl
   have q10 := k10 _ rfl
   clear k10
   rw [hT] at h10
   obtain rfl : v10 = .int .i64 x.id := h10
   rw [Array.getD_eq_getD_getElem?] at q10
   clear hsz hdep hout
   go_simp
   refine (CI.out _ HX.out.id w2).mono ?_
   rintro e w3 ⟨d, rfl, h1, x3⟩
   exact hK _ _ x3 (by rw [hT]; exact ⟨d, rfl, h1⟩)
  ·rw [if_pos (by rfl)]
   intro K hK
   have q1 := hout 1 (outB_spec (by kernel_rfl))
   rw [Array.getD_eq_getD_getElem?] at q1
   clear hsz hdep hout
   go_simp
   exact hK _ _ (Ex.refl _) (by rw [hT]; rfl)
  ·rw [if_pos (by rfl)]
   intro K hK
   obtain ⟨v12, h12, k12⟩ := hdep ⟨8, .data⟩ (by simp) rfl _ rfl
   have q12 := k12 _ rfl
   clear k12
   rw [hT] at h12
   obtain rfl : v12 = .pointer (some ⟨B, 5, none⟩) := h12
   have c1 := (A0.out.ext (Ex.trans (show Ex w1 (World.drew w1) from (Below.refl _ _).drew) hx)).cells.2.2.2.2.2.1
   rw [Array.getD_eq_getD_getElem?] at q12
   clear hsz hdep hout
   go_simp
   exact hK _ _ (Ex.refl _) (by rw [hT]; rfl)
  ·rw [if_pos (by rfl)]
   intro K hK
   obtain ⟨v13, h13, k13⟩ := hdep ⟨9, .data⟩ (by simp) rfl _ rfl
   have q13 := k13 _ rfl
   clear k13
   rw [hT] at h13
   obtain rfl : v13 = .int .i64 x.client := h13
   obtain ⟨c0, c1⟩ := HX.out.client
   rw [Array.getD_eq_getD_getElem?] at q13
   clear hsz hdep hout
   go_simp
   exact hK _ _ (Ex.refl _) (by rw [hT]; exact ⟨_, rfl, wrap_lo _, wrap_hi _⟩)
  ·rw [if_pos (by rfl)]
   intro K hK
   obtain ⟨v14, h14, k14⟩ := hdep ⟨10, .data⟩ (by simp) rfl _ rfl
   have q14 := k14 _ rfl
   clear k14
   rw [hT] at h14
   obtain ⟨m14, rfl, e14, b14⟩ := h14
   rw [Array.getD_eq_getD_getElem?] at q14
   clear hsz hdep hout
   go_simp
   refine (CD.out _ ⟨e14, b14⟩ w2).mono ?_
   rintro e w3 ⟨d, rfl, h1, x3⟩
   exact hK _ _ x3 (by rw [hT]; exact ⟨d, rfl, h1⟩)
  ·rw [if_pos (by rfl)]
   intro K hK
   have q1 := hout 1 (outB_spec (by kernel_rfl))
   rw [Array.getD_eq_getD_getElem?] at q1
   clear hsz hdep hout
   go_simp
   exact hK _ _ (Ex.refl _) (by rw [hT]; rfl)
  ·rw [if_pos (by rfl)]
   intro K hK
   obtain ⟨v16, h16, k16⟩ := hdep ⟨12, .data⟩ (by simp) rfl _ rfl
   have q16 := k16 _ rfl
   clear k16
   rw [hT] at h16
   obtain rfl : v16 = .pointer (some ⟨B, 5, none⟩) := h16
   have c1 := (A0.out.ext (Ex.trans (show Ex w1 (World.drew w1) from (Below.refl _ _).drew) hx)).cells.2.2.2.2.2.1
   rw [Array.getD_eq_getD_getElem?] at q16
   clear hsz hdep hout
   go_simp
   exact hK _ _ (Ex.refl _) (by rw [hT]; rfl)
  ·rw [if_pos (by rfl)]
   intro K hK
   obtain ⟨v17, h17, k17⟩ := hdep ⟨13, .data⟩ (by simp) rfl _ rfl
   have q17 := k17 _ rfl
   clear k17
   rw [hT] at h17
   obtain rfl : v17 = .int .i64 x.client := h17
   rw [Array.getD_eq_getD_getElem?] at q17
   clear hsz hdep hout
   go_simp
   refine (CC.out _ HX.out.client w2).mono ?_
   rintro e w3 ⟨m, rfl, h1, h2, rfl⟩
   exact hK _ _ (Ex.refl _) (by rw [hT]; exact ⟨m, rfl, h1, h2⟩)
  ·rw [if_pos (by rfl)]
   intro K hK
   have q1 := hout 1 (outB_spec (by kernel_rfl))
   rw [Array.getD_eq_getD_getElem?] at q1
   clear hsz hdep hout
   go_simp
   exact hK _ _ (Ex.refl _) (by rw [hT]; rfl)
  ·rw [if_pos (by rfl)]
   intro K hK
   obtain ⟨v19, h19, k19⟩ := hdep ⟨15, .data⟩ (by simp) rfl _ rfl
   have q19 := k19 _ rfl
   clear k19
   rw [hT] at h19
   obtain rfl : v19 = .pointer (some ⟨B, 6, none⟩) := h19
   have c1 := (A0.out.ext (Ex.trans (show Ex w1 (World.drew w1) from (Below.refl _ _).drew) hx)).cells.2.2.2.2.2.2.1
   rw [Array.getD_eq_getD_getElem?] at q19
   clear hsz hdep hout
   go_simp
   exact hK _ _ (Ex.refl _) (by rw [hT]; rfl)
  ·rw [if_pos (by rfl)]
   intro K hK
   obtain ⟨v20, h20, k20⟩ := hdep ⟨16, .data⟩ (by simp) rfl _ rfl
   have q20 := k20 _ rfl
   clear k20
   rw [hT] at h20
   obtain rfl : v20 = .int .u64 x.num := h20
   have n0 := HX.out.num0
   have n1 := HX.out.num1
   rw [Array.getD_eq_getD_getElem?] at q20
   clear hsz hdep hout
   go_simp
   rw [Int.tmod_eq_emod_of_nonneg n0]
   exact hK _ _ (Ex.refl _) (by rw [hT]; exact ⟨_, rfl, by omega, by omega⟩)
  ·rw [if_pos (by rfl)]
   intro K hK
   obtain ⟨v8, h8, k8⟩ := hdep ⟨4, .data⟩ (by simp) rfl _ rfl
   have q8 := k8 _ rfl
   clear k8
   rw [hT] at h8
   obtain ⟨m8, rfl, e8, b8⟩ := h8
   obtain ⟨v11, h11, k11⟩ := hdep ⟨7, .data⟩ (by simp) rfl _ rfl
   have q11 := k11 _ rfl
   clear k11
   rw [hT] at h11
   obtain ⟨d11, rfl, e11⟩ := h11
   obtain ⟨v15, h15, k15⟩ := hdep ⟨11, .data⟩ (by simp) rfl _ rfl
   have q15 := k15 _ rfl
   clear k15
   rw [hT] at h15
   obtain ⟨d15, rfl, e15⟩ := h15
   obtain ⟨v18, h18, k18⟩ := hdep ⟨14, .data⟩ (by simp) rfl _ rfl
   have q18 := k18 _ rfl
   clear k18
   rw [hT] at h18
   obtain ⟨m18, rfl, e18, b18⟩ := h18
   obtain ⟨v21, h21, k21⟩ := hdep ⟨17, .data⟩ (by simp) rfl _ rfl
   have q21 := k21 _ rfl
   clear k21
   rw [hT] at h21
   obtain ⟨m21, rfl, e21, b21⟩ := h21
   refine wp_build _ _ rfl _ ?_ (hK _ _ (Ex.refl _) (by rw [hT]; exact ⟨_, rfl, q0_mk e11 e15 e8 b8 e18 (by have := b18; omega) e21 b21⟩))
   simp only [List.map_cons, List.map_nil, show a.eval (.tmp 8) = _ from q8, show a.eval (.tmp 11) = _ from q11, show a.eval (.tmp 15) = _ from q15, show a.eval (.tmp 18) = _ from q18, show a.eval (.tmp 21) = _ from q21]
   exact built_q _ _ _ _ _ e11 e15
  rw [if_pos (by rfl)]
  intro K hK
  clear hsz hdep hout
  go_simp
  exact hK _ _ (Ex.alloc _ _) (by rw [hT]; exact ⟨_, rfl, Nat.le_trans W1.out (Ex.sz (Ex.trans (show Ex w1 (World.drew w1) from (Below.refl _ _).drew) hx)), Bk.new rfl _ _⟩)
 intro a w2 hx hdef hsz hdone hout
 obtain ⟨v3, h3, k3⟩ := hdone 19 _ (by omega) rfl
 have q3 := k3 _ rfl
 clear k3
 rw [hT] at h3
 obtain ⟨g3, rfl, e3, b3⟩ := h3
 obtain ⟨v22, h22, k22⟩ := hdone 18 _ (by omega) rfl
 have q22 := k22 _ rfl
 clear k22
 rw [hT] at h22
 have h22 : (fun v => ∃ q : Qt, v = q.V ∧ Q0 q) v22 := h22
 obtain ⟨q220, rfl, k220⟩ := h22
 clear hdone hT
 have hA := arr_range a.tmps 60 hsz
 change a.tmps = #[a.tmps[0]?.getD undef, a.tmps[1]?.getD undef, a.tmps[2]?.getD undef, a.tmps[3]?.getD undef, a.tmps[4]?.getD undef, a.tmps[5]?.getD undef, a.tmps[6]?.getD undef, a.tmps[7]?.getD undef, a.tmps[8]?.getD undef, a.tmps[9]?.getD undef, a.tmps[10]?.getD undef, a.tmps[11]?.getD undef, a.tmps[12]?.getD undef, a.tmps[13]?.getD undef, a.tmps[14]?.getD undef, a.tmps[15]?.getD undef, a.tmps[16]?.getD undef, a.tmps[17]?.getD undef, a.tmps[18]?.getD undef, a.tmps[19]?.getD undef, a.tmps[20]?.getD undef, a.tmps[21]?.getD undef, a.tmps[22]?.getD undef, a.tmps[23]?.getD undef, a.tmps[24]?.getD undef, a.tmps[25]?.getD undef, a.tmps[26]?.getD undef, a.tmps[27]?.getD undef, a.tmps[28]?.getD undef, a.tmps[29]?.getD undef, a.tmps[30]?.getD undef, a.tmps[31]?.getD undef, a.tmps[32]?.getD undef, a.tmps[33]?.getD undef, a.tmps[34]?.getD undef, a.tmps[35]?.getD undef, a.tmps[36]?.getD undef, a.tmps[37]?.getD undef, a.tmps[38]?.getD undef, a.tmps[39]?.getD undef, a.tmps[40]?.getD undef, a.tmps[41]?.getD undef, a.tmps[42]?.getD undef, a.tmps[43]?.getD undef, a.tmps[44]?.getD undef, a.tmps[45]?.getD undef, a.tmps[46]?.getD undef, a.tmps[47]?.getD undef, a.tmps[48]?.getD undef, a.tmps[49]?.getD undef, a.tmps[50]?.getD undef, a.tmps[51]?.getD undef, a.tmps[52]?.getD undef, a.tmps[53]?.getD undef, a.tmps[54]?.getD undef, a.tmps[55]?.getD undef, a.tmps[56]?.getD undef, a.tmps[57]?.getD undef, a.tmps[58]?.getD undef, a.tmps[59]?.getD undef] at hA
 have e0 := hout 0 (fun i o _ h => outB_spec (by kernel_rfl) i o h)
 have e1 := hout 1 (fun i o _ h => outB_spec (by kernel_rfl) i o h)
 have e2 := hout 2 (fun i o _ h => outB_spec (by kernel_rfl) i o h)
 have e23 := hout 23 (fun i o _ h => outB_spec (by kernel_rfl) i o h)
 have e24 := hout 24 (fun i o _ h => outB_spec (by kernel_rfl) i o h)
 have e25 := hout 25 (fun i o _ h => outB_spec (by kernel_rfl) i o h)
 have e26 := hout 26 (fun i o _ h => outB_spec (by kernel_rfl) i o h)
 have e27 := hout 27 (fun i o _ h => outB_spec (by kernel_rfl) i o h)
 have e28 := hout 28 (fun i o _ h => outB_spec (by kernel_rfl) i o h)
 have e29 := hout 29 (fun i o _ h => outB_spec (by kernel_rfl) i o h)
 have e30 := hout 30 (fun i o _ h => outB_spec (by kernel_rfl) i o h)
 have e31 := hout 31 (fun i o _ h => outB_spec (by kernel_rfl) i o h)
 have e32 := hout 32 (fun i o _ h => outB_spec (by kernel_rfl) i o h)
 have e33 := hout 33 (fun i o _ h => outB_spec (by kernel_rfl) i o h)
 have e34 := hout 34 (fun i o _ h => outB_spec (by kernel_rfl) i o h)
 have e35 := hout 35 (fun i o _ h => outB_spec (by kernel_rfl) i o h)
 have e36 := hout 36 (fun i o _ h => outB_spec (by kernel_rfl) i o h)
 have e37 := hout 37 (fun i o _ h => outB_spec (by kernel_rfl) i o h)
 have e38 := hout 38 (fun i o _ h => outB_spec (by kernel_rfl) i o h)
 have e39 := hout 39 (fun i o _ h => outB_spec (by kernel_rfl) i o h)
 have e40 := hout 40 (fun i o _ h => outB_spec (by kernel_rfl) i o h)
 have e41 := hout 41 (fun i o _ h => outB_spec (by kernel_rfl) i o h)
 have e42 := hout 42 (fun i o _ h => outB_spec (by kernel_rfl) i o h)
 have e43 := hout 43 (fun i o _ h => outB_spec (by kernel_rfl) i o h)
 have e44 := hout 44 (fun i o _ h => outB_spec (by kernel_rfl) i o h)
 have e45 := hout 45 (fun i o _ h => outB_spec (by kernel_rfl) i o h)
 have e46 := hout 46 (fun i o _ h => outB_spec (by kernel_rfl) i o h)
 have e47 := hout 47 (fun i o _ h => outB_spec (by kernel_rfl) i o h)
 have e48 := hout 48 (fun i o _ h => outB_spec (by kernel_rfl) i o h)
 have e49 := hout 49 (fun i o _ h => outB_spec (by kernel_rfl) i o h)
 have e50 := hout 50 (fun i o _ h => outB_spec (by kernel_rfl) i o h)
 have e51 := hout 51 (fun i o _ h => outB_spec (by kernel_rfl) i o h)
 have e52 := hout 52 (fun i o _ h => outB_spec (by kernel_rfl) i o h)
 have e53 := hout 53 (fun i o _ h => outB_spec (by kernel_rfl) i o h)
 have e54 := hout 54 (fun i o _ h => outB_spec (by kernel_rfl) i o h)
 have e55 := hout 55 (fun i o _ h => outB_spec (by kernel_rfl) i o h)
 have e56 := hout 56 (fun i o _ h => outB_spec (by kernel_rfl) i o h)
 have e57 := hout 57 (fun i o _ h => outB_spec (by kernel_rfl) i o h)
 have e58 := hout 58 (fun i o _ h => outB_spec (by kernel_rfl) i o h)
 have e59 := hout 59 (fun i o _ h => outB_spec (by kernel_rfl) i o h)
 simp only [Array.getD_eq_getD_getElem?, List.getElem?_toArray, List.getElem?_cons_zero, List.getElem?_cons_succ, Option.getD_some] at e0 e1 e2 e23 e24 e25 e26 e27 e28 e29 e30 e31 e32 e33 e34 e35 e36 e37 e38 e39 e40 e41 e42 e43 e44 e45 e46 e47 e48 e49 e50 e51 e52 e53 e54 e55 e56 e57 e58 e59
 rw [e0, e1, e2, e23, e24, e25, e26, e27, e28, e29, e30, e31, e32, e33, e34, e35, e36, e37, e38, e39, e40, e41, e42, e43, e44, e45, e46, e47, e48, e49, e50, e51, e52, e53, e54, e55, e56, e57, e58, e59] at hA
 clear e0 e1 e2 e23 e24 e25 e26 e27 e28 e29 e30 e31 e32 e33 e34 e35 e36 e37 e38 e39 e40 e41 e42 e43 e44 e45 e46 e47 e48 e49 e50 e51 e52 e53 e54 e55 e56 e57 e58 e59 hout
 have hds2 : a.defers = [] := hdef
 have ea : a = ⟨a.tmps, a.defers⟩ := rfl
 rw [Array.getD_eq_getD_getElem?] at q3 q22
 rw [hA, hds2, q3, q22] at ea
 clear hA hds2 q3 q22 hdef
 generalize a.tmps[4]?.getD undef = y4 at ea
 generalize a.tmps[5]?.getD undef = y5 at ea
 generalize a.tmps[6]?.getD undef = y6 at ea
 generalize a.tmps[7]?.getD undef = y7 at ea
 generalize a.tmps[8]?.getD undef = y8 at ea
 generalize a.tmps[9]?.getD undef = y9 at ea
 generalize a.tmps[10]?.getD undef = y10 at ea
 generalize a.tmps[11]?.getD undef = y11 at ea
 generalize a.tmps[12]?.getD undef = y12 at ea
 generalize a.tmps[13]?.getD undef = y13 at ea
 generalize a.tmps[14]?.getD undef = y14 at ea
 generalize a.tmps[15]?.getD undef = y15 at ea
 generalize a.tmps[16]?.getD undef = y16 at ea
 generalize a.tmps[17]?.getD undef = y17 at ea
 generalize a.tmps[18]?.getD undef = y18 at ea
 generalize a.tmps[19]?.getD undef = y19 at ea
 generalize a.tmps[20]?.getD undef = y20 at ea
 generalize a.tmps[21]?.getD undef = y21 at ea
 clear hsz
 subst ea
 have bx : Ex w1 w2 := Ex.trans (show Ex w1 (World.drew w1) from (Below.refl _ _).drew) hx
 unfold wpOp
 simp only [List.getElem?_toArray, List.getElem?_cons_zero, List.getElem?_cons_succ]
 rw [if_pos (by rfl)]
 left
 refine st_q _ _ g3 q220 rfl rfl rfl k220.ok b3 (by rfl) (fun w5 hd ho => ?_)
 have HG3 := Hi e3
 have HQ := Hi k220
 replace A0 := Hi (ho.kb (A0.out.ext bx) (by have := HG3.out; omega))
 replace Z0 := Hi (ho.qb (Z0.out.ext bx) (by have := HG3.out; omega))
 replace BW := Hi (ho.below w.heap.size (by rw [← HB.out]; have := HG3.out; omega) w (Ex.trans BW.out bx))
 have Q1 := Hi hd
 clear hd ho e3 b3 k220 bx CC CI
 generalize q220 = q at *
 have hq := HQ.out
 have QB0 := Q1.out.1
 obtain ⟨o1, o4⟩ := And.intro hq.op1 hq.op4
 have h4 : q.op = 1 ∨ q.op = 2 ∨ q.op = 3 ∨ q.op = 4 := by omega
 clear hq o1 o4 QB0 W1
 obtain ⟨op, hop⟩ : ∃ op, op = q.op := ⟨_, rfl⟩
 rw [← hop] at h4
 have HOP := Hi hop
 clear hop
 rcases h4 with rfl | rfl | rfl | rfl
 ·obtain ⟨d0, d21, d22, d55, d56⟩ := Q1.out.cells
  rw [← HOP.out] at d0
  clear d21 d22 d55 d56
  obtain ⟨k0, k1, k2, k3, k4, k5, k6, k7⟩ := A0.out.cells
  go_wp2_with ((with_reducible refine so3 [1000+3, 1000+25] ?_ ?_); (focus rfl))
  refine (CW.out _ HX.out.pin _).mono ?_
  rintro e w6 ⟨m, rfl, hm1, hm2, rfl⟩
  have tm := Int.tmod_eq_emod_of_nonneg hm1 (b := 3)
  have t0 := Int.emod_nonneg m (show (3 : Int) ≠ 0 by decide)
  have t1 := Int.emod_lt_of_pos m (show (0 : Int) < 3 by decide)
  go_wp2_with ((with_reducible refine so3 [1000+3, 1000+25] ?_ ?_); (focus rfl))
  refine (CD.out _ ⟨by omega, by omega⟩ _).mono ?_
  rintro e w7 ⟨d, rfl, hd16, x7⟩
  have Hd := Hi hd16
  clear hd16 hm1 hm2 tm t0 t1 d0 k0 k1 k2 k3 k4 k5 k6 k7
  replace A0 := Hi (A0.out.ext x7)
  replace Z0 := Hi (Z0.out.ext x7)
  replace Q1 := Hi (Q1.out.ext x7)
  replace BW := Hi (Ex.trans BW.out x7)
  clear x7
  go_wp2_with ((with_reducible refine so3 [1000+3, 1000+25] ?_ ?_); (focus rfl))
  refine at9 (by go_simp) fun K0 hK => st_qpin _ _ g3 q d rfl rfl rfl Hd.out Q1.out (fun w8 hd ho => hK _ _ ?_)
  clear hK
  have hg3 := HG3.out
  replace A0 := Hi (ho.kb A0.out (by omega))
  replace Z0 := Hi (ho.qb Z0.out (by omega))
  replace BW := Hi (ho.below w.heap.size (by rw [← HB.out]; omega) w BW.out)
  replace Q1 := Hi hd
  clear hd ho hg3
  obtain ⟨d0, d21, d22, d55, d56⟩ := Q1.out.cells
  rw [← HOP.out] at d0
  clear d21 d22 d55 d56
  obtain ⟨k0, k1, k2, k3, k4, k5, k6, k7⟩ := A0.out.cells
  go_wp2_with ((with_reducible refine so3 [1000+3, 1000+25] ?_ ?_); (focus rfl))
  refine (CW.out _ HX.out.own _).mono ?_
  rintro e w6 ⟨m, rfl, hm1, hm2, rfl⟩
  have tm := Int.tmod_eq_emod_of_nonneg hm1 (b := 2)
  have t0 := Int.emod_nonneg m (show (2 : Int) ≠ 0 by decide)
  have t1 := Int.emod_lt_of_pos m (show (0 : Int) < 2 by decide)
  go_wp2_with ((with_reducible refine so3 [1000+3, 1000+25] ?_ ?_); (focus rfl))
  refine (CD.out _ ⟨by omega, by omega⟩ _).mono ?_
  rintro e w7 ⟨f, rfl, hd16, x7⟩
  have Hf := Hi hd16
  clear hd16 hm1 hm2 tm t0 t1 d0 k0 k1 k2 k3 k4 k5 k6 k7
  replace A0 := Hi (A0.out.ext x7)
  replace Z0 := Hi (Z0.out.ext x7)
  replace Q1 := Hi (Q1.out.ext x7)
  replace BW := Hi (Ex.trans BW.out x7)
  clear x7
  go_wp2_with ((with_reducible refine so3 [1000+3, 1000+25] ?_ ?_); (focus rfl))
  refine at9 (by go_simp) fun K0 hK => st_qown _ _ g3 { q with pin := d } f rfl rfl rfl Hf.out Q1.out (fun w8 hd ho => hK _ _ ?_)
  clear hK
  have hg3 := HG3.out
  replace A0 := Hi (ho.kb A0.out (by omega))
  replace Z0 := Hi (ho.qb Z0.out (by omega))
  replace BW := Hi (ho.below w.heap.size (by rw [← HB.out]; omega) w BW.out)
  replace Q1 := Hi hd
  clear hd ho hg3
  obtain ⟨d0, d21, d22, d55, d56⟩ := Q1.out.cells
  rw [← HOP.out] at d0
  clear d21 d22 d55 d56
  obtain ⟨k0, k1, k2, k3, k4, k5, k6, k7⟩ := A0.out.cells
  go_wp2_with ((with_reducible refine so3 [1000+3] ?_ ?_); (focus rfl))
  obtain ⟨q2, hq2⟩ : ∃ y : Qt, y = { { q with pin := d } with own := f } := ⟨_, rfl⟩
  rw [← hq2] at Q1
  have E2 := Hi (show q2.op = 1 ∧ q2.client = q.client ∧ q2.num = q.num from by rw [hq2]; exact ⟨HOP.out.symm, rfl, rfl⟩)
  clear hq2 d0 k0 k1 k2 k3 k4 k5 k6 k7
  generalize w8 = wr at *
  have W1 := Hi (show g3 + 1 ≤ wr.heap.size from Q1.out.lt)
  obtain ⟨T, hT⟩ : ∃ T : List Ar, T = [.is (.pointer (some ⟨B, 4, none⟩)), .is (.int .i64 x.lim), .intb .i64 (1) (32), .emp (g3 + 1), .is (.pointer (some ⟨B, 7, none⟩)), .is (.slice x.sec.ad x.sec.l.length x.sec.cap), .is (Pt.V ⟨x.sec.ad, x.sec.cap, x.sec.l.take 64⟩), .pn (g3 + 1) (x.sec.l.take 64), .is (.pointer (some ⟨g3, 22, none⟩))] := ⟨_, rfl⟩
  obtain ⟨T2, hT2⟩ : ∃ T : List Ar, T = [.is (.pointer (some ⟨B, 4, none⟩)), .is (.int .i64 x.lim), .intb .i64 (1) (32), .emp (g3 + 1), .is (.pointer (some ⟨B, 7, none⟩)), .is (.slice x.sec.ad x.sec.l.length x.sec.cap), .is (Pt.V ⟨x.sec.ad, x.sec.cap, x.sec.l.take 64⟩), .pn (g3 + 1) (x.sec.l.take 64), .is (.pointer (some ⟨g3, 22, none⟩)), .any, .is (.pointer (some ⟨g3, 21, none⟩))] := ⟨_, rfl⟩
  refine wp_region_cut 9 11 (arPhi T) (arPhi T2) (by kernel_rfl) rfl (by omega) (by kernel_rfl) (by kernel_rfl) (by kernel_rfl) (by kernel_rfl) (by kernel_rfl) (arPhi_stable T) (arPhi_stable T2) (fitB_spec (by kernel_rfl)) ?_ ?_
  ·intro i o hi ho
   have hi' : i = 0 ∨ i = 1 ∨ i = 2 ∨ i = 3 ∨ i = 4 ∨ i = 5 ∨ i = 6 ∨ i = 7 ∨ i = 8 := by omega
   clear hi
   rcases hi' with rfl | rfl | rfl | rfl | rfl | rfl | rfl | rfl | rfl
   all_goals (simp only [List.getElem?_toArray, List.getElem?_cons_zero, List.getElem?_cons_succ, Option.some.injEq] at ho; subst ho; intro a w2 hx hsz hdep hout)
   ·rw [if_pos (by rfl)]
    intro K hK
    have q1 := hout 1 (outB_spec (by kernel_rfl))
    rw [Array.getD_eq_getD_getElem?] at q1
    clear hsz hdep hout
    go_simp
    exact hK _ _ (Ex.refl _) (by rw [hT]; rfl)
   ·rw [if_pos (by rfl)]
    intro K hK
    obtain ⟨v49, h49, k49⟩ := hdep ⟨0, .data⟩ (by simp) rfl _ rfl
    have q49 := k49 _ rfl
    clear k49
    rw [hT] at h49
    obtain rfl : v49 = .pointer (some ⟨B, 4, none⟩) := h49
    have c1 := (A0.out.ext (Ex.trans (show Ex wr (World.drew wr) from (Below.refl _ _).drew) hx)).cells.2.2.2.2.1
    rw [Array.getD_eq_getD_getElem?] at q49
    clear hsz hdep hout
    go_simp
    exact hK _ _ (Ex.refl _) (by rw [hT]; rfl)
   ·rw [if_pos (by rfl)]
    intro K hK
    obtain ⟨v50, h50, k50⟩ := hdep ⟨1, .data⟩ (by simp) rfl _ rfl
    have q50 := k50 _ rfl
    clear k50
    rw [hT] at h50
    obtain rfl : v50 = .int .i64 x.lim := h50
    rw [Array.getD_eq_getD_getElem?] at q50
    clear hsz hdep hout
    go_simp
    refine (CL.out _ HX.out.lim w2).mono ?_
    rintro e w3 ⟨m, rfl, h1, h2, rfl⟩
    exact hK _ _ (Ex.refl _) (by rw [hT]; exact ⟨m, rfl, h1, h2⟩)
   ·rw [if_pos (by rfl)]
    intro K hK
    clear hsz hdep hout
    go_simp
    exact hK _ _ (Ex.alloc _ _) (by rw [hT]; exact ⟨_, rfl, Nat.le_trans W1.out (Ex.sz (Ex.trans (show Ex wr (World.drew wr) from (Below.refl _ _).drew) hx)), Bk.new rfl _ _⟩)
   ·rw [if_pos (by rfl)]
    intro K hK
    have q1 := hout 1 (outB_spec (by kernel_rfl))
    rw [Array.getD_eq_getD_getElem?] at q1
    clear hsz hdep hout
    go_simp
    exact hK _ _ (Ex.refl _) (by rw [hT]; rfl)
   ·rw [if_pos (by rfl)]
    intro K hK
    obtain ⟨v53, h53, k53⟩ := hdep ⟨4, .data⟩ (by simp) rfl _ rfl
    have q53 := k53 _ rfl
    clear k53
    rw [hT] at h53
    obtain rfl : v53 = .pointer (some ⟨B, 7, none⟩) := h53
    have c1 := (A0.out.ext (Ex.trans (show Ex wr (World.drew wr) from (Below.refl _ _).drew) hx)).cells.2.2.2.2.2.2.2
    rw [Array.getD_eq_getD_getElem?] at q53
    clear hsz hdep hout
    go_simp
    exact hK _ _ (Ex.refl _) (by rw [hT]; rfl)
   ·rw [if_pos (by rfl)]
    intro K hK
    obtain ⟨v54, h54, k54⟩ := hdep ⟨5, .data⟩ (by simp) rfl _ rfl
    have q54 := k54 _ rfl
    clear k54
    rw [hT] at h54
    obtain rfl : v54 = .slice x.sec.ad x.sec.l.length x.sec.cap := h54
    rw [Array.getD_eq_getD_getElem?] at q54
    clear hsz hdep hout
    go_simp
    refine (CX.out w2 (Ex.trans BW.out (Ex.trans (show Ex wr (World.drew wr) from (Below.refl _ _).drew) hx))).mono ?_
    rintro e w3 ⟨rfl, rfl⟩
    exact hK _ _ (Ex.refl _) (by rw [hT]; rfl)
   ·rw [if_pos (by rfl)]
    intro K hK
    obtain ⟨v52, h52, k52⟩ := hdep ⟨3, .data⟩ (by simp) rfl _ rfl
    have q52 := k52 _ rfl
    clear k52
    rw [hT] at h52
    obtain ⟨g52, rfl, e52, b52⟩ := h52
    obtain ⟨v55, h55, k55⟩ := hdep ⟨6, .data⟩ (by simp) rfl _ rfl
    have q55 := k55 _ rfl
    clear k55
    rw [hT] at h55
    obtain rfl : v55 = Pt.V ⟨x.sec.ad, x.sec.cap, x.sec.l.take 64⟩ := h55
    exact wp_app_emp (.tmp 52) (.tmp 55) rfl (g3 + 1) g52 ⟨x.sec.ad, x.sec.cap, x.sec.l.take 64⟩ q52 q55 e52 b52 (Nat.le_trans W1.out (Ex.sz (Ex.trans (show Ex wr (World.drew wr) from (Below.refl _ _).drew) hx))) (bcut_in (HX.out.sec.ext (Ex.trans BW.out (Ex.trans (show Ex wr (World.drew wr) from (Below.refl _ _).drew) hx))) 64) (by show (x.sec.l.take 64).length ≤ _; rw [List.length_take]; omega) (fun v' w' hown hx' => hK _ _ hx' (by rw [hT]; obtain ⟨p, rfl, hl, hn⟩ := own_pn hown; exact ⟨p, rfl, hl, hn⟩))
   rw [if_pos (by rfl)]
   intro K hK
   have q3 := hout 3 (outB_spec (by kernel_rfl))
   rw [Array.getD_eq_getD_getElem?] at q3
   clear hsz hdep hout
   go_simp
   exact hK _ _ (Ex.refl _) (by rw [hT]; rfl)
  intro a w2 o ho hx hdef hsz hdone hout
  simp only [List.getElem?_toArray, List.getElem?_cons_zero, List.getElem?_cons_succ, Option.some.injEq] at ho
  subst ho
  obtain ⟨v57, h57, k57⟩ := hdone 8 _ (by omega) rfl
  have q57 := k57 _ rfl
  rw [hT] at h57
  obtain rfl : v57 = .pointer (some ⟨g3, 22, none⟩) := h57
  obtain ⟨v51, h51, k51⟩ := hdone 2 _ (by omega) rfl
  have q51 := k51 _ rfl
  rw [hT] at h51
  obtain ⟨m51, rfl, e51, b51⟩ := h51
  have E51 := Hi (And.intro e51 b51)
  have bx : Ex wr w2 := Ex.trans (show Ex wr (World.drew wr) from (Below.refl _ _).drew) hx
  refine wpOp_do rfl (by rfl) ?_
  refine st_qlim (by kernel_rfl) _ _ g3 q2 m51 rfl q57 q51 (by omega) (by omega) (Q1.out.ext bx) (fun w9 hd ho => ⟨undef, rfl, (by rw [hT2]; trivial), ?_, ?_, ?_⟩)
  ·intro i u hi h
   have hi' : i = 0 ∨ i = 1 ∨ i = 2 ∨ i = 3 ∨ i = 4 ∨ i = 5 ∨ i = 6 ∨ i = 7 ∨ i = 8 := by omega
   have hh : T2.getD i .any = T.getD i .any ∧ (T.getD i .any).far g3 := by
    rw [hT, hT2]
    rcases hi' with rfl | rfl | rfl | rfl | rfl | rfl | rfl | rfl | rfl
    all_goals (first | exact ⟨rfl, trivial⟩ | exact ⟨rfl, Nat.lt_succ_self g3⟩)
   unfold arPhi at *
   rw [hh.1]
   exact Ar.only h ho hh.2
  ·intro i o h1 h2 ho2
   obtain rfl : i = 10 := by omega
   simp only [List.getElem?_toArray, List.getElem?_cons_zero, List.getElem?_cons_succ, Option.some.injEq] at ho2
   subst ho2
   intro a3 w3 hx3 hsz3 hdep3 hout3
   rw [if_pos (by rfl)]
   intro K hK
   have q3 := hout3 3 (outB_spec (by kernel_rfl))
   clear hsz3 hdep3 hout3
   go_simp
   exact hK _ _ (Ex.refl _) (by rw [hT2]; rfl)
  have HD9 := Hi hd
  have HA9 := Hi (ho.kb (A0.out.ext bx) (by have := HG3.out; omega))
  have HZ9 := Hi (ho.qb (Z0.out.ext bx) (by have := HG3.out; omega))
  have HBW9 := Hi (ho.below w.heap.size (by rw [← HB.out]; have := HG3.out; omega) w (Ex.trans BW.out bx))
  clear hd ho A0 Z0 Q1 BW bx hdone hout hx hdef hsz q57 q51 k57 k51 e51 b51 hT
  ·intro a w2 hx hdef hsz hdone hout
   obtain ⟨v56, h56, k56⟩ := hdone 7 _ (by omega) rfl
   have q56 := k56 _ rfl
   clear k56
   rw [hT2] at h56
   obtain ⟨p56, rfl, l56, i56⟩ := h56
   obtain ⟨v58, h58, k58⟩ := hdone 10 _ (by omega) rfl
   have q58 := k58 _ rfl
   clear k58
   rw [hT2] at h58
   obtain rfl : v58 = .pointer (some ⟨g3, 21, none⟩) := h58
   clear hdone hT2
   have hA := arr_range a.tmps 60 hsz
   change a.tmps = #[a.tmps[0]?.getD undef, a.tmps[1]?.getD undef, a.tmps[2]?.getD undef, a.tmps[3]?.getD undef, a.tmps[4]?.getD undef, a.tmps[5]?.getD undef, a.tmps[6]?.getD undef, a.tmps[7]?.getD undef, a.tmps[8]?.getD undef, a.tmps[9]?.getD undef, a.tmps[10]?.getD undef, a.tmps[11]?.getD undef, a.tmps[12]?.getD undef, a.tmps[13]?.getD undef, a.tmps[14]?.getD undef, a.tmps[15]?.getD undef, a.tmps[16]?.getD undef, a.tmps[17]?.getD undef, a.tmps[18]?.getD undef, a.tmps[19]?.getD undef, a.tmps[20]?.getD undef, a.tmps[21]?.getD undef, a.tmps[22]?.getD undef, a.tmps[23]?.getD undef, a.tmps[24]?.getD undef, a.tmps[25]?.getD undef, a.tmps[26]?.getD undef, a.tmps[27]?.getD undef, a.tmps[28]?.getD undef, a.tmps[29]?.getD undef, a.tmps[30]?.getD undef, a.tmps[31]?.getD undef, a.tmps[32]?.getD undef, a.tmps[33]?.getD undef, a.tmps[34]?.getD undef, a.tmps[35]?.getD undef, a.tmps[36]?.getD undef, a.tmps[37]?.getD undef, a.tmps[38]?.getD undef, a.tmps[39]?.getD undef, a.tmps[40]?.getD undef, a.tmps[41]?.getD undef, a.tmps[42]?.getD undef, a.tmps[43]?.getD undef, a.tmps[44]?.getD undef, a.tmps[45]?.getD undef, a.tmps[46]?.getD undef, a.tmps[47]?.getD undef, a.tmps[48]?.getD undef, a.tmps[49]?.getD undef, a.tmps[50]?.getD undef, a.tmps[51]?.getD undef, a.tmps[52]?.getD undef, a.tmps[53]?.getD undef, a.tmps[54]?.getD undef, a.tmps[55]?.getD undef, a.tmps[56]?.getD undef, a.tmps[57]?.getD undef, a.tmps[58]?.getD undef, a.tmps[59]?.getD undef] at hA
   have e0 := hout 0 (fun i o _ h => outB_spec (by kernel_rfl) i o h)
   have e1 := hout 1 (fun i o _ h => outB_spec (by kernel_rfl) i o h)
   have e2 := hout 2 (fun i o _ h => outB_spec (by kernel_rfl) i o h)
   have e3 := hout 3 (fun i o _ h => outB_spec (by kernel_rfl) i o h)
   have e4 := hout 4 (fun i o _ h => outB_spec (by kernel_rfl) i o h)
   have e5 := hout 5 (fun i o _ h => outB_spec (by kernel_rfl) i o h)
   have e6 := hout 6 (fun i o _ h => outB_spec (by kernel_rfl) i o h)
   have e7 := hout 7 (fun i o _ h => outB_spec (by kernel_rfl) i o h)
   have e8 := hout 8 (fun i o _ h => outB_spec (by kernel_rfl) i o h)
   have e9 := hout 9 (fun i o _ h => outB_spec (by kernel_rfl) i o h)
   have e10 := hout 10 (fun i o _ h => outB_spec (by kernel_rfl) i o h)
   have e11 := hout 11 (fun i o _ h => outB_spec (by kernel_rfl) i o h)
   have e12 := hout 12 (fun i o _ h => outB_spec (by kernel_rfl) i o h)
   have e13 := hout 13 (fun i o _ h => outB_spec (by kernel_rfl) i o h)
   have e14 := hout 14 (fun i o _ h => outB_spec (by kernel_rfl) i o h)
   have e15 := hout 15 (fun i o _ h => outB_spec (by kernel_rfl) i o h)
   have e16 := hout 16 (fun i o _ h => outB_spec (by kernel_rfl) i o h)
   have e17 := hout 17 (fun i o _ h => outB_spec (by kernel_rfl) i o h)
   have e18 := hout 18 (fun i o _ h => outB_spec (by kernel_rfl) i o h)
   have e19 := hout 19 (fun i o _ h => outB_spec (by kernel_rfl) i o h)
   have e20 := hout 20 (fun i o _ h => outB_spec (by kernel_rfl) i o h)
   have e21 := hout 21 (fun i o _ h => outB_spec (by kernel_rfl) i o h)
   have e22 := hout 22 (fun i o _ h => outB_spec (by kernel_rfl) i o h)
   have e23 := hout 23 (fun i o _ h => outB_spec (by kernel_rfl) i o h)
   have e24 := hout 24 (fun i o _ h => outB_spec (by kernel_rfl) i o h)
   have e25 := hout 25 (fun i o _ h => outB_spec (by kernel_rfl) i o h)
   have e26 := hout 26 (fun i o _ h => outB_spec (by kernel_rfl) i o h)
   have e27 := hout 27 (fun i o _ h => outB_spec (by kernel_rfl) i o h)
   have e28 := hout 28 (fun i o _ h => outB_spec (by kernel_rfl) i o h)
   have e29 := hout 29 (fun i o _ h => outB_spec (by kernel_rfl) i o h)
   have e30 := hout 30 (fun i o _ h => outB_spec (by kernel_rfl) i o h)
   have e31 := hout 31 (fun i o _ h => outB_spec (by kernel_rfl) i o h)
   have e32 := hout 32 (fun i o _ h => outB_spec (by kernel_rfl) i o h)
   have e33 := hout 33 (fun i o _ h => outB_spec (by kernel_rfl) i o h)
   have e34 := hout 34 (fun i o _ h => outB_spec (by kernel_rfl) i o h)
   have e35 := hout 35 (fun i o _ h => outB_spec (by kernel_rfl) i o h)
   have e36 := hout 36 (fun i o _ h => outB_spec (by kernel_rfl) i o h)
   have e37 := hout 37 (fun i o _ h => outB_spec (by kernel_rfl) i o h)
   have e38 := hout 38 (fun i o _ h => outB_spec (by kernel_rfl) i o h)
   have e39 := hout 39 (fun i o _ h => outB_spec (by kernel_rfl) i o h)
   have e40 := hout 40 (fun i o _ h => outB_spec (by kernel_rfl) i o h)
   have e41 := hout 41 (fun i o _ h => outB_spec (by kernel_rfl) i o h)
   have e42 := hout 42 (fun i o _ h => outB_spec (by kernel_rfl) i o h)
   have e43 := hout 43 (fun i o _ h => outB_spec (by kernel_rfl) i o h)
   have e44 := hout 44 (fun i o _ h => outB_spec (by kernel_rfl) i o h)
   have e45 := hout 45 (fun i o _ h => outB_spec (by kernel_rfl) i o h)
   have e46 := hout 46 (fun i o _ h => outB_spec (by kernel_rfl) i o h)
   have e47 := hout 47 (fun i o _ h => outB_spec (by kernel_rfl) i o h)
   have e48 := hout 48 (fun i o _ h => outB_spec (by kernel_rfl) i o h)
   have e59 := hout 59 (fun i o _ h => outB_spec (by kernel_rfl) i o h)
   simp only [Array.getD_eq_getD_getElem?, List.getElem?_toArray, List.getElem?_cons_zero, List.getElem?_cons_succ, Option.getD_some] at e0 e1 e2 e3 e4 e5 e6 e7 e8 e9 e10 e11 e12 e13 e14 e15 e16 e17 e18 e19 e20 e21 e22 e23 e24 e25 e26 e27 e28 e29 e30 e31 e32 e33 e34 e35 e36 e37 e38 e39 e40 e41 e42 e43 e44 e45 e46 e47 e48 e59
   rw [e0, e1, e2, e3, e4, e5, e6, e7, e8, e9, e10, e11, e12, e13, e14, e15, e16, e17, e18, e19, e20, e21, e22, e23, e24, e25, e26, e27, e28, e29, e30, e31, e32, e33, e34, e35, e36, e37, e38, e39, e40, e41, e42, e43, e44, e45, e46, e47, e48, e59] at hA
   clear e0 e1 e2 e3 e4 e5 e6 e7 e8 e9 e10 e11 e12 e13 e14 e15 e16 e17 e18 e19 e20 e21 e22 e23 e24 e25 e26 e27 e28 e29 e30 e31 e32 e33 e34 e35 e36 e37 e38 e39 e40 e41 e42 e43 e44 e45 e46 e47 e48 e59 hout
   have hds2 : a.defers = [] := hdef
   have ea : a = ⟨a.tmps, a.defers⟩ := rfl
   rw [Array.getD_eq_getD_getElem?] at q56 q58
   rw [hA, hds2, q56, q58] at ea
   clear hA hds2 q56 q58 hdef
   generalize a.tmps[49]?.getD undef = y49 at ea
   generalize a.tmps[50]?.getD undef = y50 at ea
   generalize a.tmps[51]?.getD undef = y51 at ea
   generalize a.tmps[52]?.getD undef = y52 at ea
   generalize a.tmps[53]?.getD undef = y53 at ea
   generalize a.tmps[54]?.getD undef = y54 at ea
   generalize a.tmps[55]?.getD undef = y55 at ea
   generalize a.tmps[57]?.getD undef = y57 at ea
   clear hsz
   subst ea
   have bx : Ex w9 w2 := Ex.trans (show Ex w9 (World.drew w9) from (Below.refl _ _).drew) hx
   unfold wpOp
   simp only [List.getElem?_toArray, List.getElem?_cons_zero, List.getElem?_cons_succ]
   rw [if_pos (by rfl)]
   left
   have HP56 := Hi l56
   have HI56 := Hi i56
   clear l56 i56
   refine st_qsec (by kernel_rfl) _ _ g3 { q2 with lim := m51 } p56 rfl rfl rfl (HD9.out.ext bx) (fun w10 hd ho => ?_)
   have Z0 := Hi (ho.qb (HZ9.out.ext bx) (by have := HG3.out; omega))
   have BW := Hi (ho.below w.heap.size (by rw [← HB.out]; have := HG3.out; omega) w (Ex.trans HBW9.out bx))
   have Q1 := Hi hd
   have I0 := Hi (HI56.out.only ho (Nat.lt_succ_self g3))
   clear hd ho HZ9 HBW9 HD9 HA9 HI56 bx
   go_wp2_with ((with_reducible refine so3 [1000+3, 1000+25] ?_ ?_); (focus rfl))
   refine at9 (by go_simp) fun K0 hK => ld_q _ _ { q2 with lim := m51, sec := p56 } rfl rfl Q1.out (hK _ _ ?_)
   clear hK
   go_wp2_with ((with_reducible refine so3 [1000+3, 1000+25] ?_ ?_); (focus rfl))
   refine at9 (by go_simp) fun K0 hK => st_q _ _ (B + 1) { q2 with lim := m51, sec := p56 } rfl rfl rfl Q1.out.1 Z0.out.2 (by rw [List.size_toArray, Qt.len Z0.out.1]) (fun w11 hd ho => hK _ _ ?_)
   clear hK
   have BW9 := ho.below w.heap.size (by rw [← HB.out]; omega) w BW.out
   have I9 := I0.out.onlyT ho Z0.out.2 (by decide)
   clear ho
   go_wp2_with fail
   exact bodyPost_ret (res_q rfl _ _ (B + 1) rfl { q2 with lim := m51, sec := p56 } hd) rfl ⟨{ q2 with lim := m51, sec := p56 }, rfl, ⟨hd.1, I9.1⟩, right_kept (by show 0 ≤ q2.client; rw [E2.out.2.1]; exact HQ.out.c0) (by show q2.client < 4; rw [E2.out.2.1]; exact HQ.out.c1) (by show q2.num ≤ _; rw [E2.out.2.2]; exact HQ.out.num) (by show q2.op = 1 ∨ q2.op = 3; rw [E2.out.1]; decide) E51.out.1 E51.out.2 (by show p56.l.length ≤ 64; rw [HP56.out, List.length_take]; omega), BW9, I9.less (Nat.zero_le _)⟩
 ·obtain ⟨d0, d21, d22, d55, d56⟩ := Q1.out.cells
  rw [← HOP.out] at d0
  clear d21 d22 d55 d56
  obtain ⟨k0, k1, k2, k3, k4, k5, k6, k7⟩ := A0.out.cells
  go_wp2_with ((with_reducible refine so3 [1000+3, 1000+25] ?_ ?_); (focus rfl))
  refine (CW.out _ HX.out.pin _).mono ?_
  rintro e w6 ⟨m, rfl, hm1, hm2, rfl⟩
  have tm := Int.tmod_eq_emod_of_nonneg hm1 (b := 3)
  have t0 := Int.emod_nonneg m (show (3 : Int) ≠ 0 by decide)
  have t1 := Int.emod_lt_of_pos m (show (0 : Int) < 3 by decide)
  go_wp2_with ((with_reducible refine so3 [1000+3, 1000+25] ?_ ?_); (focus rfl))
  refine (CD.out _ ⟨by omega, by omega⟩ _).mono ?_
  rintro e w7 ⟨d, rfl, hd16, x7⟩
  have Hd := Hi hd16
  clear hd16 hm1 hm2 tm t0 t1 d0 k0 k1 k2 k3 k4 k5 k6 k7
  replace A0 := Hi (A0.out.ext x7)
  replace Z0 := Hi (Z0.out.ext x7)
  replace Q1 := Hi (Q1.out.ext x7)
  replace BW := Hi (Ex.trans BW.out x7)
  clear x7
  go_wp2_with ((with_reducible refine so3 [1000+3, 1000+25] ?_ ?_); (focus rfl))
  refine at9 (by go_simp) fun K0 hK => st_qpin _ _ g3 q d rfl rfl rfl Hd.out Q1.out (fun w8 hd ho => hK _ _ ?_)
  clear hK
  have hg3 := HG3.out
  replace A0 := Hi (ho.kb A0.out (by omega))
  replace Z0 := Hi (ho.qb Z0.out (by omega))
  replace BW := Hi (ho.below w.heap.size (by rw [← HB.out]; omega) w BW.out)
  replace Q1 := Hi hd
  clear hd ho hg3
  obtain ⟨d0, d21, d22, d55, d56⟩ := Q1.out.cells
  rw [← HOP.out] at d0
  clear d21 d22 d55 d56
  obtain ⟨k0, k1, k2, k3, k4, k5, k6, k7⟩ := A0.out.cells
  go_wp2_with ((with_reducible refine so3 [1000+3, 1000+25] ?_ ?_); (focus rfl))
  refine at9 (by go_simp) fun K0 hK => ld_q _ _ { q with pin := d } rfl rfl Q1.out (hK _ _ ?_)
  clear hK
  go_wp2_with ((with_reducible refine so3 [1000+3, 1000+25] ?_ ?_); (focus rfl))
  refine at9 (by go_simp) fun K0 hK => st_q _ _ (B + 1) { q with pin := d } rfl rfl rfl Q1.out.1 Z0.out.2 (by rw [List.size_toArray, Qt.len Z0.out.1]) (fun w9 hd ho => hK _ _ ?_)
  clear hK
  clear d0 k0 k1 k2 k3 k4 k5 k6 k7
  have BW9 := ho.below w.heap.size (by rw [← HB.out]; omega) w BW.out
  clear ho
  go_wp2_with fail
  exact bodyPost_ret (res_q rfl _ _ (B + 1) rfl { q with pin := d } hd) rfl ⟨{ q with pin := d }, rfl, ⟨hd.1, by show q.sec.In _ _; rw [HQ.out.sec]; exact nilB_in _ _⟩, right_rec HQ.out.c0 HQ.out.c1 HQ.out.num HOP.out.symm HQ.out.lim HQ.out.own (by show q.sec.l = []; rw [HQ.out.sec]; rfl), BW9, (by show PN _ _ q.sec; rw [HQ.out.sec]; exact nilB_pn _ _)⟩
 ·obtain ⟨d0, d21, d22, d55, d56⟩ := Q1.out.cells
  rw [← HOP.out] at d0
  clear d21 d22 d55 d56
  obtain ⟨k0, k1, k2, k3, k4, k5, k6, k7⟩ := A0.out.cells
  go_wp2_with ((with_reducible refine so3 [1000+3, 1000+25] ?_ ?_); (focus rfl))
  refine (CW.out _ HX.out.pin _).mono ?_
  rintro e w6 ⟨m, rfl, hm1, hm2, rfl⟩
  have tm := Int.tmod_eq_emod_of_nonneg hm1 (b := 3)
  have t0 := Int.emod_nonneg m (show (3 : Int) ≠ 0 by decide)
  have t1 := Int.emod_lt_of_pos m (show (0 : Int) < 3 by decide)
  go_wp2_with ((with_reducible refine so3 [1000+3, 1000+25] ?_ ?_); (focus rfl))
  refine (CD.out _ ⟨by omega, by omega⟩ _).mono ?_
  rintro e w7 ⟨d, rfl, hd16, x7⟩
  have Hd := Hi hd16
  clear hd16 hm1 hm2 tm t0 t1 d0 k0 k1 k2 k3 k4 k5 k6 k7
  replace A0 := Hi (A0.out.ext x7)
  replace Z0 := Hi (Z0.out.ext x7)
  replace Q1 := Hi (Q1.out.ext x7)
  replace BW := Hi (Ex.trans BW.out x7)
  clear x7
  go_wp2_with ((with_reducible refine so3 [1000+3, 1000+25] ?_ ?_); (focus rfl))
  refine at9 (by go_simp) fun K0 hK => st_qpin _ _ g3 q d rfl rfl rfl Hd.out Q1.out (fun w8 hd ho => hK _ _ ?_)
  clear hK
  have hg3 := HG3.out
  replace A0 := Hi (ho.kb A0.out (by omega))
  replace Z0 := Hi (ho.qb Z0.out (by omega))
  replace BW := Hi (ho.below w.heap.size (by rw [← HB.out]; omega) w BW.out)
  replace Q1 := Hi hd
  clear hd ho hg3
  obtain ⟨d0, d21, d22, d55, d56⟩ := Q1.out.cells
  rw [← HOP.out] at d0
  clear d21 d22 d55 d56
  obtain ⟨k0, k1, k2, k3, k4, k5, k6, k7⟩ := A0.out.cells
  go_wp2_with ((with_reducible refine so3 [1000+3, 1000+25] ?_ ?_); (focus rfl))
  refine (CW.out _ HX.out.own _).mono ?_
  rintro e w6 ⟨m, rfl, hm1, hm2, rfl⟩
  have tm := Int.tmod_eq_emod_of_nonneg hm1 (b := 2)
  have t0 := Int.emod_nonneg m (show (2 : Int) ≠ 0 by decide)
  have t1 := Int.emod_lt_of_pos m (show (0 : Int) < 2 by decide)
  go_wp2_with ((with_reducible refine so3 [1000+3, 1000+25] ?_ ?_); (focus rfl))
  refine (CD.out _ ⟨by omega, by omega⟩ _).mono ?_
  rintro e w7 ⟨f, rfl, hd16, x7⟩
  have Hf := Hi hd16
  clear hd16 hm1 hm2 tm t0 t1 d0 k0 k1 k2 k3 k4 k5 k6 k7
  replace A0 := Hi (A0.out.ext x7)
  replace Z0 := Hi (Z0.out.ext x7)
  replace Q1 := Hi (Q1.out.ext x7)
  replace BW := Hi (Ex.trans BW.out x7)
  clear x7
  go_wp2_with ((with_reducible refine so3 [1000+3, 1000+25] ?_ ?_); (focus rfl))
  refine at9 (by go_simp) fun K0 hK => st_qown _ _ g3 { q with pin := d } f rfl rfl rfl Hf.out Q1.out (fun w8 hd ho => hK _ _ ?_)
  clear hK
  have hg3 := HG3.out
  replace A0 := Hi (ho.kb A0.out (by omega))
  replace Z0 := Hi (ho.qb Z0.out (by omega))
  replace BW := Hi (ho.below w.heap.size (by rw [← HB.out]; omega) w BW.out)
  replace Q1 := Hi hd
  clear hd ho hg3
  obtain ⟨d0, d21, d22, d55, d56⟩ := Q1.out.cells
  rw [← HOP.out] at d0
  clear d21 d22 d55 d56
  obtain ⟨k0, k1, k2, k3, k4, k5, k6, k7⟩ := A0.out.cells
  go_wp2_with ((with_reducible refine so3 [1000+3] ?_ ?_); (focus rfl))
  obtain ⟨q2, hq2⟩ : ∃ y : Qt, y = { { q with pin := d } with own := f } := ⟨_, rfl⟩
  rw [← hq2] at Q1
  have E2 := Hi (show q2.op = 3 ∧ q2.client = q.client ∧ q2.num = q.num from by rw [hq2]; exact ⟨HOP.out.symm, rfl, rfl⟩)
  clear hq2 d0 k0 k1 k2 k3 k4 k5 k6 k7
  generalize w8 = wr at *
  have W1 := Hi (show g3 + 1 ≤ wr.heap.size from Q1.out.lt)
  obtain ⟨T, hT⟩ : ∃ T : List Ar, T = [.is (.pointer (some ⟨B, 4, none⟩)), .is (.int .i64 x.lim), .intb .i64 (1) (32), .emp (g3 + 1), .is (.pointer (some ⟨B, 7, none⟩)), .is (.slice x.sec.ad x.sec.l.length x.sec.cap), .is (Pt.V ⟨x.sec.ad, x.sec.cap, x.sec.l.take 64⟩), .pn (g3 + 1) (x.sec.l.take 64), .is (.pointer (some ⟨g3, 22, none⟩))] := ⟨_, rfl⟩
  obtain ⟨T2, hT2⟩ : ∃ T : List Ar, T = [.is (.pointer (some ⟨B, 4, none⟩)), .is (.int .i64 x.lim), .intb .i64 (1) (32), .emp (g3 + 1), .is (.pointer (some ⟨B, 7, none⟩)), .is (.slice x.sec.ad x.sec.l.length x.sec.cap), .is (Pt.V ⟨x.sec.ad, x.sec.cap, x.sec.l.take 64⟩), .pn (g3 + 1) (x.sec.l.take 64), .is (.pointer (some ⟨g3, 22, none⟩)), .any, .is (.pointer (some ⟨g3, 21, none⟩))] := ⟨_, rfl⟩
  refine wp_region_cut 9 11 (arPhi T) (arPhi T2) (by kernel_rfl) rfl (by omega) (by kernel_rfl) (by kernel_rfl) (by kernel_rfl) (by kernel_rfl) (by kernel_rfl) (arPhi_stable T) (arPhi_stable T2) (fitB_spec (by kernel_rfl)) ?_ ?_
  ·intro i o hi ho
   have hi' : i = 0 ∨ i = 1 ∨ i = 2 ∨ i = 3 ∨ i = 4 ∨ i = 5 ∨ i = 6 ∨ i = 7 ∨ i = 8 := by omega
   clear hi
   rcases hi' with rfl | rfl | rfl | rfl | rfl | rfl | rfl | rfl | rfl
   all_goals (simp only [List.getElem?_toArray, List.getElem?_cons_zero, List.getElem?_cons_succ, Option.some.injEq] at ho; subst ho; intro a w2 hx hsz hdep hout)
   ·rw [if_pos (by rfl)]
    intro K hK
    have q1 := hout 1 (outB_spec (by kernel_rfl))
    rw [Array.getD_eq_getD_getElem?] at q1
    clear hsz hdep hout
    go_simp
    exact hK _ _ (Ex.refl _) (by rw [hT]; rfl)
   ·rw [if_pos (by rfl)]
    intro K hK
    obtain ⟨v49, h49, k49⟩ := hdep ⟨0, .data⟩ (by simp) rfl _ rfl
    have q49 := k49 _ rfl
    clear k49
    rw [hT] at h49
    obtain rfl : v49 = .pointer (some ⟨B, 4, none⟩) := h49
    have c1 := (A0.out.ext (Ex.trans (show Ex wr (World.drew wr) from (Below.refl _ _).drew) hx)).cells.2.2.2.2.1
    rw [Array.getD_eq_getD_getElem?] at q49
    clear hsz hdep hout
    go_simp
    exact hK _ _ (Ex.refl _) (by rw [hT]; rfl)
   ·rw [if_pos (by rfl)]
    intro K hK
    obtain ⟨v50, h50, k50⟩ := hdep ⟨1, .data⟩ (by simp) rfl _ rfl
    have q50 := k50 _ rfl
    clear k50
    rw [hT] at h50
    obtain rfl : v50 = .int .i64 x.lim := h50
    rw [Array.getD_eq_getD_getElem?] at q50
    clear hsz hdep hout
    go_simp
    refine (CL.out _ HX.out.lim w2).mono ?_
    rintro e w3 ⟨m, rfl, h1, h2, rfl⟩
    exact hK _ _ (Ex.refl _) (by rw [hT]; exact ⟨m, rfl, h1, h2⟩)
   ·rw [if_pos (by rfl)]
    intro K hK
    clear hsz hdep hout
    go_simp
    exact hK _ _ (Ex.alloc _ _) (by rw [hT]; exact ⟨_, rfl, Nat.le_trans W1.out (Ex.sz (Ex.trans (show Ex wr (World.drew wr) from (Below.refl _ _).drew) hx)), Bk.new rfl _ _⟩)
   ·rw [if_pos (by rfl)]
    intro K hK
    have q1 := hout 1 (outB_spec (by kernel_rfl))
    rw [Array.getD_eq_getD_getElem?] at q1
    clear hsz hdep hout
    go_simp
    exact hK _ _ (Ex.refl _) (by rw [hT]; rfl)
   ·rw [if_pos (by rfl)]
    intro K hK
    obtain ⟨v53, h53, k53⟩ := hdep ⟨4, .data⟩ (by simp) rfl _ rfl
    have q53 := k53 _ rfl
    clear k53
    rw [hT] at h53
    obtain rfl : v53 = .pointer (some ⟨B, 7, none⟩) := h53
    have c1 := (A0.out.ext (Ex.trans (show Ex wr (World.drew wr) from (Below.refl _ _).drew) hx)).cells.2.2.2.2.2.2.2
    rw [Array.getD_eq_getD_getElem?] at q53
    clear hsz hdep hout
    go_simp
    exact hK _ _ (Ex.refl _) (by rw [hT]; rfl)
   ·rw [if_pos (by rfl)]
    intro K hK
    obtain ⟨v54, h54, k54⟩ := hdep ⟨5, .data⟩ (by simp) rfl _ rfl
    have q54 := k54 _ rfl
    clear k54
    rw [hT] at h54
    obtain rfl : v54 = .slice x.sec.ad x.sec.l.length x.sec.cap := h54
    rw [Array.getD_eq_getD_getElem?] at q54
    clear hsz hdep hout
    go_simp
    refine (CX.out w2 (Ex.trans BW.out (Ex.trans (show Ex wr (World.drew wr) from (Below.refl _ _).drew) hx))).mono ?_
    rintro e w3 ⟨rfl, rfl⟩
    exact hK _ _ (Ex.refl _) (by rw [hT]; rfl)
   ·rw [if_pos (by rfl)]
    intro K hK
    obtain ⟨v52, h52, k52⟩ := hdep ⟨3, .data⟩ (by simp) rfl _ rfl
    have q52 := k52 _ rfl
    clear k52
    rw [hT] at h52
    obtain ⟨g52, rfl, e52, b52⟩ := h52
    obtain ⟨v55, h55, k55⟩ := hdep ⟨6, .data⟩ (by simp) rfl _ rfl
    have q55 := k55 _ rfl
    clear k55
    rw [hT] at h55
    obtain rfl : v55 = Pt.V ⟨x.sec.ad, x.sec.cap, x.sec.l.take 64⟩ := h55
    exact wp_app_emp (.tmp 52) (.tmp 55) rfl (g3 + 1) g52 ⟨x.sec.ad, x.sec.cap, x.sec.l.take 64⟩ q52 q55 e52 b52 (Nat.le_trans W1.out (Ex.sz (Ex.trans (show Ex wr (World.drew wr) from (Below.refl _ _).drew) hx))) (bcut_in (HX.out.sec.ext (Ex.trans BW.out (Ex.trans (show Ex wr (World.drew wr) from (Below.refl _ _).drew) hx))) 64) (by show (x.sec.l.take 64).length ≤ _; rw [List.length_take]; omega) (fun v' w' hown hx' => hK _ _ hx' (by rw [hT]; obtain ⟨p, rfl, hl, hn⟩ := own_pn hown; exact ⟨p, rfl, hl, hn⟩))
   rw [if_pos (by rfl)]
   intro K hK
   have q3 := hout 3 (outB_spec (by kernel_rfl))
   rw [Array.getD_eq_getD_getElem?] at q3
   clear hsz hdep hout
   go_simp
   exact hK _ _ (Ex.refl _) (by rw [hT]; rfl)
  intro a w2 o ho hx hdef hsz hdone hout
  simp only [List.getElem?_toArray, List.getElem?_cons_zero, List.getElem?_cons_succ, Option.some.injEq] at ho
  subst ho
  obtain ⟨v57, h57, k57⟩ := hdone 8 _ (by omega) rfl
  have q57 := k57 _ rfl
  rw [hT] at h57
  obtain rfl : v57 = .pointer (some ⟨g3, 22, none⟩) := h57
  obtain ⟨v51, h51, k51⟩ := hdone 2 _ (by omega) rfl
  have q51 := k51 _ rfl
  rw [hT] at h51
  obtain ⟨m51, rfl, e51, b51⟩ := h51
  have E51 := Hi (And.intro e51 b51)
  have bx : Ex wr w2 := Ex.trans (show Ex wr (World.drew wr) from (Below.refl _ _).drew) hx
  refine wpOp_do rfl (by rfl) ?_
  refine st_qlim (by kernel_rfl) _ _ g3 q2 m51 rfl q57 q51 (by omega) (by omega) (Q1.out.ext bx) (fun w9 hd ho => ⟨undef, rfl, (by rw [hT2]; trivial), ?_, ?_, ?_⟩)
  ·intro i u hi h
   have hi' : i = 0 ∨ i = 1 ∨ i = 2 ∨ i = 3 ∨ i = 4 ∨ i = 5 ∨ i = 6 ∨ i = 7 ∨ i = 8 := by omega
   have hh : T2.getD i .any = T.getD i .any ∧ (T.getD i .any).far g3 := by
    rw [hT, hT2]
    rcases hi' with rfl | rfl | rfl | rfl | rfl | rfl | rfl | rfl | rfl
    all_goals (first | exact ⟨rfl, trivial⟩ | exact ⟨rfl, Nat.lt_succ_self g3⟩)
   unfold arPhi at *
   rw [hh.1]
   exact Ar.only h ho hh.2
  ·intro i o h1 h2 ho2
   obtain rfl : i = 10 := by omega
   simp only [List.getElem?_toArray, List.getElem?_cons_zero, List.getElem?_cons_succ, Option.some.injEq] at ho2
   subst ho2
   intro a3 w3 hx3 hsz3 hdep3 hout3
   rw [if_pos (by rfl)]
   intro K hK
   have q3 := hout3 3 (outB_spec (by kernel_rfl))
   clear hsz3 hdep3 hout3
   go_simp
   exact hK _ _ (Ex.refl _) (by rw [hT2]; rfl)
  have HD9 := Hi hd
  have HA9 := Hi (ho.kb (A0.out.ext bx) (by have := HG3.out; omega))
  have HZ9 := Hi (ho.qb (Z0.out.ext bx) (by have := HG3.out; omega))
  have HBW9 := Hi (ho.below w.heap.size (by rw [← HB.out]; have := HG3.out; omega) w (Ex.trans BW.out bx))
  clear hd ho A0 Z0 Q1 BW bx hdone hout hx hdef hsz q57 q51 k57 k51 e51 b51 hT
  ·intro a w2 hx hdef hsz hdone hout
   obtain ⟨v56, h56, k56⟩ := hdone 7 _ (by omega) rfl
   have q56 := k56 _ rfl
   clear k56
   rw [hT2] at h56
   obtain ⟨p56, rfl, l56, i56⟩ := h56
   obtain ⟨v58, h58, k58⟩ := hdone 10 _ (by omega) rfl
   have q58 := k58 _ rfl
   clear k58
   rw [hT2] at h58
   obtain rfl : v58 = .pointer (some ⟨g3, 21, none⟩) := h58
   clear hdone hT2
   have hA := arr_range a.tmps 60 hsz
   change a.tmps = #[a.tmps[0]?.getD undef, a.tmps[1]?.getD undef, a.tmps[2]?.getD undef, a.tmps[3]?.getD undef, a.tmps[4]?.getD undef, a.tmps[5]?.getD undef, a.tmps[6]?.getD undef, a.tmps[7]?.getD undef, a.tmps[8]?.getD undef, a.tmps[9]?.getD undef, a.tmps[10]?.getD undef, a.tmps[11]?.getD undef, a.tmps[12]?.getD undef, a.tmps[13]?.getD undef, a.tmps[14]?.getD undef, a.tmps[15]?.getD undef, a.tmps[16]?.getD undef, a.tmps[17]?.getD undef, a.tmps[18]?.getD undef, a.tmps[19]?.getD undef, a.tmps[20]?.getD undef, a.tmps[21]?.getD undef, a.tmps[22]?.getD undef, a.tmps[23]?.getD undef, a.tmps[24]?.getD undef, a.tmps[25]?.getD undef, a.tmps[26]?.getD undef, a.tmps[27]?.getD undef, a.tmps[28]?.getD undef, a.tmps[29]?.getD undef, a.tmps[30]?.getD undef, a.tmps[31]?.getD undef, a.tmps[32]?.getD undef, a.tmps[33]?.getD undef, a.tmps[34]?.getD undef, a.tmps[35]?.getD undef, a.tmps[36]?.getD undef, a.tmps[37]?.getD undef, a.tmps[38]?.getD undef, a.tmps[39]?.getD undef, a.tmps[40]?.getD undef, a.tmps[41]?.getD undef, a.tmps[42]?.getD undef, a.tmps[43]?.getD undef, a.tmps[44]?.getD undef, a.tmps[45]?.getD undef, a.tmps[46]?.getD undef, a.tmps[47]?.getD undef, a.tmps[48]?.getD undef, a.tmps[49]?.getD undef, a.tmps[50]?.getD undef, a.tmps[51]?.getD undef, a.tmps[52]?.getD undef, a.tmps[53]?.getD undef, a.tmps[54]?.getD undef, a.tmps[55]?.getD undef, a.tmps[56]?.getD undef, a.tmps[57]?.getD undef, a.tmps[58]?.getD undef, a.tmps[59]?.getD undef] at hA
   have e0 := hout 0 (fun i o _ h => outB_spec (by kernel_rfl) i o h)
   have e1 := hout 1 (fun i o _ h => outB_spec (by kernel_rfl) i o h)
   have e2 := hout 2 (fun i o _ h => outB_spec (by kernel_rfl) i o h)
   have e3 := hout 3 (fun i o _ h => outB_spec (by kernel_rfl) i o h)
   have e4 := hout 4 (fun i o _ h => outB_spec (by kernel_rfl) i o h)
   have e5 := hout 5 (fun i o _ h => outB_spec (by kernel_rfl) i o h)
   have e6 := hout 6 (fun i o _ h => outB_spec (by kernel_rfl) i o h)
   have e7 := hout 7 (fun i o _ h => outB_spec (by kernel_rfl) i o h)
   have e8 := hout 8 (fun i o _ h => outB_spec (by kernel_rfl) i o h)
   have e9 := hout 9 (fun i o _ h => outB_spec (by kernel_rfl) i o h)
   have e10 := hout 10 (fun i o _ h => outB_spec (by kernel_rfl) i o h)
   have e11 := hout 11 (fun i o _ h => outB_spec (by kernel_rfl) i o h)
   have e12 := hout 12 (fun i o _ h => outB_spec (by kernel_rfl) i o h)
   have e13 := hout 13 (fun i o _ h => outB_spec (by kernel_rfl) i o h)
   have e14 := hout 14 (fun i o _ h => outB_spec (by kernel_rfl) i o h)
   have e15 := hout 15 (fun i o _ h => outB_spec (by kernel_rfl) i o h)
   have e16 := hout 16 (fun i o _ h => outB_spec (by kernel_rfl) i o h)
   have e17 := hout 17 (fun i o _ h => outB_spec (by kernel_rfl) i o h)
   have e18 := hout 18 (fun i o _ h => outB_spec (by kernel_rfl) i o h)
   have e19 := hout 19 (fun i o _ h => outB_spec (by kernel_rfl) i o h)
   have e20 := hout 20 (fun i o _ h => outB_spec (by kernel_rfl) i o h)
   have e21 := hout 21 (fun i o _ h => outB_spec (by kernel_rfl) i o h)
   have e22 := hout 22 (fun i o _ h => outB_spec (by kernel_rfl) i o h)
   have e23 := hout 23 (fun i o _ h => outB_spec (by kernel_rfl) i o h)
   have e24 := hout 24 (fun i o _ h => outB_spec (by kernel_rfl) i o h)
   have e25 := hout 25 (fun i o _ h => outB_spec (by kernel_rfl) i o h)
   have e26 := hout 26 (fun i o _ h => outB_spec (by kernel_rfl) i o h)
   have e27 := hout 27 (fun i o _ h => outB_spec (by kernel_rfl) i o h)
   have e28 := hout 28 (fun i o _ h => outB_spec (by kernel_rfl) i o h)
   have e29 := hout 29 (fun i o _ h => outB_spec (by kernel_rfl) i o h)
   have e30 := hout 30 (fun i o _ h => outB_spec (by kernel_rfl) i o h)
   have e31 := hout 31 (fun i o _ h => outB_spec (by kernel_rfl) i o h)
   have e32 := hout 32 (fun i o _ h => outB_spec (by kernel_rfl) i o h)
   have e33 := hout 33 (fun i o _ h => outB_spec (by kernel_rfl) i o h)
   have e34 := hout 34 (fun i o _ h => outB_spec (by kernel_rfl) i o h)
   have e35 := hout 35 (fun i o _ h => outB_spec (by kernel_rfl) i o h)
   have e36 := hout 36 (fun i o _ h => outB_spec (by kernel_rfl) i o h)
   have e37 := hout 37 (fun i o _ h => outB_spec (by kernel_rfl) i o h)
   have e38 := hout 38 (fun i o _ h => outB_spec (by kernel_rfl) i o h)
   have e39 := hout 39 (fun i o _ h => outB_spec (by kernel_rfl) i o h)
   have e40 := hout 40 (fun i o _ h => outB_spec (by kernel_rfl) i o h)
   have e41 := hout 41 (fun i o _ h => outB_spec (by kernel_rfl) i o h)
   have e42 := hout 42 (fun i o _ h => outB_spec (by kernel_rfl) i o h)
   have e43 := hout 43 (fun i o _ h => outB_spec (by kernel_rfl) i o h)
   have e44 := hout 44 (fun i o _ h => outB_spec (by kernel_rfl) i o h)
   have e45 := hout 45 (fun i o _ h => outB_spec (by kernel_rfl) i o h)
   have e46 := hout 46 (fun i o _ h => outB_spec (by kernel_rfl) i o h)
   have e47 := hout 47 (fun i o _ h => outB_spec (by kernel_rfl) i o h)
   have e48 := hout 48 (fun i o _ h => outB_spec (by kernel_rfl) i o h)
   have e59 := hout 59 (fun i o _ h => outB_spec (by kernel_rfl) i o h)
   simp only [Array.getD_eq_getD_getElem?, List.getElem?_toArray, List.getElem?_cons_zero, List.getElem?_cons_succ, Option.getD_some] at e0 e1 e2 e3 e4 e5 e6 e7 e8 e9 e10 e11 e12 e13 e14 e15 e16 e17 e18 e19 e20 e21 e22 e23 e24 e25 e26 e27 e28 e29 e30 e31 e32 e33 e34 e35 e36 e37 e38 e39 e40 e41 e42 e43 e44 e45 e46 e47 e48 e59
   rw [e0, e1, e2, e3, e4, e5, e6, e7, e8, e9, e10, e11, e12, e13, e14, e15, e16, e17, e18, e19, e20, e21, e22, e23, e24, e25, e26, e27, e28, e29, e30, e31, e32, e33, e34, e35, e36, e37, e38, e39, e40, e41, e42, e43, e44, e45, e46, e47, e48, e59] at hA
   clear e0 e1 e2 e3 e4 e5 e6 e7 e8 e9 e10 e11 e12 e13 e14 e15 e16 e17 e18 e19 e20 e21 e22 e23 e24 e25 e26 e27 e28 e29 e30 e31 e32 e33 e34 e35 e36 e37 e38 e39 e40 e41 e42 e43 e44 e45 e46 e47 e48 e59 hout
   have hds2 : a.defers = [] := hdef
   have ea : a = ⟨a.tmps, a.defers⟩ := rfl
   rw [Array.getD_eq_getD_getElem?] at q56 q58
   rw [hA, hds2, q56, q58] at ea
   clear hA hds2 q56 q58 hdef
   generalize a.tmps[49]?.getD undef = y49 at ea
   generalize a.tmps[50]?.getD undef = y50 at ea
   generalize a.tmps[51]?.getD undef = y51 at ea
   generalize a.tmps[52]?.getD undef = y52 at ea
   generalize a.tmps[53]?.getD undef = y53 at ea
   generalize a.tmps[54]?.getD undef = y54 at ea
   generalize a.tmps[55]?.getD undef = y55 at ea
   generalize a.tmps[57]?.getD undef = y57 at ea
   clear hsz
   subst ea
   have bx : Ex w9 w2 := Ex.trans (show Ex w9 (World.drew w9) from (Below.refl _ _).drew) hx
   unfold wpOp
   simp only [List.getElem?_toArray, List.getElem?_cons_zero, List.getElem?_cons_succ]
   rw [if_pos (by rfl)]
   left
   have HP56 := Hi l56
   have HI56 := Hi i56
   clear l56 i56
   refine st_qsec (by kernel_rfl) _ _ g3 { q2 with lim := m51 } p56 rfl rfl rfl (HD9.out.ext bx) (fun w10 hd ho => ?_)
   have Z0 := Hi (ho.qb (HZ9.out.ext bx) (by have := HG3.out; omega))
   have BW := Hi (ho.below w.heap.size (by rw [← HB.out]; have := HG3.out; omega) w (Ex.trans HBW9.out bx))
   have Q1 := Hi hd
   have I0 := Hi (HI56.out.only ho (Nat.lt_succ_self g3))
   clear hd ho HZ9 HBW9 HD9 HA9 HI56 bx
   go_wp2_with ((with_reducible refine so3 [1000+3, 1000+25] ?_ ?_); (focus rfl))
   refine at9 (by go_simp) fun K0 hK => ld_q _ _ { q2 with lim := m51, sec := p56 } rfl rfl Q1.out (hK _ _ ?_)
   clear hK
   go_wp2_with ((with_reducible refine so3 [1000+3, 1000+25] ?_ ?_); (focus rfl))
   refine at9 (by go_simp) fun K0 hK => st_q _ _ (B + 1) { q2 with lim := m51, sec := p56 } rfl rfl rfl Q1.out.1 Z0.out.2 (by rw [List.size_toArray, Qt.len Z0.out.1]) (fun w11 hd ho => hK _ _ ?_)
   clear hK
   have BW9 := ho.below w.heap.size (by rw [← HB.out]; omega) w BW.out
   have I9 := I0.out.onlyT ho Z0.out.2 (by decide)
   clear ho
   go_wp2_with fail
   exact bodyPost_ret (res_q rfl _ _ (B + 1) rfl { q2 with lim := m51, sec := p56 } hd) rfl ⟨{ q2 with lim := m51, sec := p56 }, rfl, ⟨hd.1, I9.1⟩, right_kept (by show 0 ≤ q2.client; rw [E2.out.2.1]; exact HQ.out.c0) (by show q2.client < 4; rw [E2.out.2.1]; exact HQ.out.c1) (by show q2.num ≤ _; rw [E2.out.2.2]; exact HQ.out.num) (by show q2.op = 1 ∨ q2.op = 3; rw [E2.out.1]; decide) E51.out.1 E51.out.2 (by show p56.l.length ≤ 64; rw [HP56.out, List.length_take]; omega), BW9, I9.less (Nat.zero_le _)⟩
 obtain ⟨d0, d21, d22, d55, d56⟩ := Q1.out.cells
 rw [← HOP.out] at d0
 clear d21 d22 d55 d56
 obtain ⟨k0, k1, k2, k3, k4, k5, k6, k7⟩ := A0.out.cells
 go_wp2_with ((with_reducible refine so3 [1000+3, 1000+25] ?_ ?_); (focus rfl))
 refine (CW.out _ HX.out.own _).mono ?_
 rintro e w6 ⟨m, rfl, hm1, hm2, rfl⟩
 have tm := Int.tmod_eq_emod_of_nonneg hm1 (b := 2)
 have t0 := Int.emod_nonneg m (show (2 : Int) ≠ 0 by decide)
 have t1 := Int.emod_lt_of_pos m (show (0 : Int) < 2 by decide)
 go_wp2_with ((with_reducible refine so3 [1000+3, 1000+25] ?_ ?_); (focus rfl))
 refine (CD.out _ ⟨by omega, by omega⟩ _).mono ?_
 rintro e w7 ⟨f, rfl, hd16, x7⟩
 have Hf := Hi hd16
 clear hd16 hm1 hm2 tm t0 t1 d0 k0 k1 k2 k3 k4 k5 k6 k7
 replace A0 := Hi (A0.out.ext x7)
 replace Z0 := Hi (Z0.out.ext x7)
 replace Q1 := Hi (Q1.out.ext x7)
 replace BW := Hi (Ex.trans BW.out x7)
 clear x7
 go_wp2_with ((with_reducible refine so3 [1000+3, 1000+25] ?_ ?_); (focus rfl))
 refine at9 (by go_simp) fun K0 hK => st_qown _ _ g3 q f rfl rfl rfl Hf.out Q1.out (fun w8 hd ho => hK _ _ ?_)
 clear hK
 have hg3 := HG3.out
 replace A0 := Hi (ho.kb A0.out (by omega))
 replace Z0 := Hi (ho.qb Z0.out (by omega))
 replace BW := Hi (ho.below w.heap.size (by rw [← HB.out]; omega) w BW.out)
 replace Q1 := Hi hd
 clear hd ho hg3
 obtain ⟨d0, d21, d22, d55, d56⟩ := Q1.out.cells
 rw [← HOP.out] at d0
 clear d21 d22 d55 d56
 obtain ⟨k0, k1, k2, k3, k4, k5, k6, k7⟩ := A0.out.cells
 go_wp2_with ((with_reducible refine so3 [1000+3, 1000+25] ?_ ?_); (focus rfl))
 refine at9 (by go_simp) fun K0 hK => ld_q _ _ { q with own := f } rfl rfl Q1.out (hK _ _ ?_)
 clear hK
 go_wp2_with ((with_reducible refine so3 [1000+3, 1000+25] ?_ ?_); (focus rfl))
 refine at9 (by go_simp) fun K0 hK => st_q _ _ (B + 1) { q with own := f } rfl rfl rfl Q1.out.1 Z0.out.2 (by rw [List.size_toArray, Qt.len Z0.out.1]) (fun w9 hd ho => hK _ _ ?_)
 clear hK
 clear d0 k0 k1 k2 k3 k4 k5 k6 k7
 have BW9 := ho.below w.heap.size (by rw [← HB.out]; omega) w BW.out
 clear ho
 go_wp2_with fail
 exact bodyPost_ret (res_q rfl _ _ (B + 1) rfl { q with own := f } hd) rfl ⟨{ q with own := f }, rfl, ⟨hd.1, by show q.sec.In _ _; rw [HQ.out.sec]; exact nilB_in _ _⟩, right_rem HQ.out.c0 HQ.out.c1 HQ.out.num HOP.out.symm HQ.out.lim HQ.out.pin (by show q.sec.l = []; rw [HQ.out.sec]; rfl), BW9, (by show PN _ _ q.sec; rw [HQ.out.sec]; exact nilB_pn _ _)⟩
end Go.Proofs.Ytmjfnpmnhehnkaa
