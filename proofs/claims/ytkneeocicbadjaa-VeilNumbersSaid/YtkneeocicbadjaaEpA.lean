/- walks: EnvelopeNumbers -/
import Derived.Test.YtkneeocicbadjaaEnF
namespace Go.Proofs.Ytkneeocicbadjaa
open Go.RowKit
theorem made_zero (n : Nat) : (madeCells (Value.int .u8 0).cells (n * 1)).toList = Lib.byteCells (List.replicate n 0) := by
  rw [Nat.mul_one]
  show (madeCells #[Value.int .u8 0] n).toList = _
  rw [toList_madeCells_one]; simp [Lib.byteCells]
theorem wp_mk {o : Oper} {a : Act} {w : World} {K : Act → World → Prop} {Q : Exit → Act → World → Prop} (x y : Operand) (ho : o.op = .makeSlice 22 x y) (n : Nat) (hx : a.eval x = .int .i64 n) (hy : a.eval y = .int .i64 n) (hn : n ≤ 100000)
    (h : ∀ w', ownU w' w.heap.size (.slice (some ⟨w.heap.size, 0, none⟩) n n) (List.replicate n 0) → Ex w w' → K (a.put o.dst (.slice (some ⟨w.heap.size, 0, none⟩) n n)) w') : o.wp Try.prog a w K Q := by
  obtain ⟨i0, hi0, hz0, hz1, hz2⟩ := info_parts sm_u8
  obtain ⟨w', hr, h1, h2⟩ := run_make_full (P := Try.prog) w w.heap.size 22 5 i0 (.int .u8 0) 1 Try.underlying22 hi0 hz0 hz1 .i64 .i64 n (by rw [hz2]; omega) (by unfold maxLen; omega) (Nat.le_refl _)
  rw [made_zero] at h1
  unfold Oper.wp execOp
  simp only [ho, hx, hy, Sem.run_bind, hr]
  refine h w' ?_ ((Below.refl _ _).grown h2 (Nat.le_refl _) (fun k hk => by cases hk))
  unfold ownU
  rw [List.length_replicate]
  exact h1
def closeR (kl : List UInt8) (s : Int) (b : UInt8) (t : List UInt8) : List UInt8 × Int := if t.length ≤ 8176 then (closeL kl s b t, 0) else ([], 3)
theorem closeR_len (kl : List UInt8) (s : Int) (b : UInt8) (t : List UInt8) : (closeR kl s b t).1.length ≤ 8192 := by
  unfold closeR
  by_cases h : t.length ≤ 8176
  · rw [if_pos h]; simp only [closeL_len]; omega
  · rw [if_neg h]; simp
set_option maxHeartbeats 4000000 in
set_option maxRecDepth 100000 in
theorem rclose_long (kl : List UInt8) (n : Int) (to : UInt8) (p : Pt) (w : World) (hp : p.In w w.heap.size) (hl : 8176 < p.l.length) (hm : p.l.length ≤ 9223372036854775807) :
    Calls Try.prog 49 #[digV kl, .int .u64 n, .int .u8 to.toNat, p.V] w (TupPost [] 3 w) := by
  obtain ⟨cs, hcs⟩ : ∃ cs, cs = (Lib.byteCells kl).toArray := ⟨_, rfl⟩
  have hv : digV kl = .agg cs := by rw [hcs]; rfl
  have bw : Below w.heap.size w (w.alloc (.cells cs 24)) := (Below.refl _ _).alloc (Nat.le_refl _) _
  obtain ⟨m, hmm⟩ : ∃ m, m = p.l.length := ⟨_, rfl⟩
  have hpv : p.V = .slice p.ad m p.cap := by unfold Pt.V; rw [hmm]
  rw [← hmm] at hl hm
  rw [hv, hpv]
  clear hv hcs hpv hmm hp
  go_enter Try.func49, Try.ntmps49
  go_wp2_with fail
  go_ret2
  exact ⟨⟨none, 0, []⟩, rfl, rfl, nil_inE _ _, bw⟩
theorem close_all (kl : List UInt8) (hk : kl.length = 16) (n : Int) (n0 : 0 ≤ n) (n1 : n < 18446744073709551616) (to : UInt8) (p : Pt) (w : World) (hp : p.In w w.heap.size) (hm : p.l.length ≤ 9223372036854775807) :
    Calls Try.prog 48 #[digV kl, .int .u64 n, .int .u8 to.toNat, p.V] w (TupPost (closeR kl n to p.l).1 (closeR kl n to p.l).2 w) := by
  unfold closeR
  by_cases h : p.l.length ≤ 8176
  · rw [if_pos h]; exact close_any kl hk n n0 n1 to p w hp h
  · rw [if_neg h]; exact close_long kl n to p w hp (by omega) hm
theorem rclose_all (kl : List UInt8) (hk : kl.length = 16) (n : Int) (n0 : 0 ≤ n) (n1 : n < 18446744073709551616) (to : UInt8) (p : Pt) (w : World) (hp : p.In w w.heap.size) (hm : p.l.length ≤ 9223372036854775807) :
    Calls Try.prog 49 #[digV kl, .int .u64 n, .int .u8 to.toNat, p.V] w (TupPost (closeR kl n to p.l).1 (closeR kl n to p.l).2 w) := by
  unfold closeR
  by_cases h : p.l.length ≤ 8176
  · rw [if_pos h]; exact rclose_any kl hk n n0 n1 to p w hp h
  · rw [if_neg h]; exact rclose_long kl n to p w hp (by omega) hm
theorem own_ptN {w : World} {B g n c : Nat} {l : List UInt8} (h : ownU w B (.slice (some ⟨g, 0, none⟩) n c) l) (hn : l.length = n) : (Pt.mk (some ⟨g, 0, none⟩) c l).In w w.heap.size := by
  obtain ⟨p, e, hl, hi⟩ := own_pt0 h
  have : p = ⟨some ⟨g, 0, none⟩, c, l⟩ := by
    obtain ⟨a, cc, l'⟩ := p
    have hl' : l' = l := hl
    subst hl'
    unfold Pt.V at e
    injection e with e1 e2 e3
    rw [e1, e3]
  rw [← this]; exact hi
def en1 : Array Value := #[.int .i64 0, .int .i64 1, .int .i64 16, .int .i64 100, .int .i64 8175, .int .i64 8176, .int .i64 8177, .int .i64 8192]
theorem en1_at (j : Nat) (h : j < 8) : ∃ c : Nat, en1[j]? = some (.int .i64 c) ∧ c ≤ 8192 := by
  have h' : j = 0 ∨ j = 1 ∨ j = 2 ∨ j = 3 ∨ j = 4 ∨ j = 5 ∨ j = 6 ∨ j = 7 := by omega
  rcases h' with rfl | rfl | rfl | rfl | rfl | rfl | rfl | rfl
  · exact ⟨0, rfl, by omega⟩
  · exact ⟨1, rfl, by omega⟩
  · exact ⟨16, rfl, by omega⟩
  · exact ⟨100, rfl, by omega⟩
  · exact ⟨8175, rfl, by omega⟩
  · exact ⟨8176, rfl, by omega⟩
  · exact ⟨8177, rfl, by omega⟩
  · exact ⟨8192, rfl, by omega⟩
set_option maxHeartbeats 8000000 in
set_option maxRecDepth 100000 in
theorem enumbers_any (w : World) :
    Calls Try.prog 16 #[] w fun e w' => e = .returned (.bool true) ∧ Below w.heap.size w w' := by
  go_enter Try.func16, Try.ntmps16
  go_wp2_with fail
  have B1 := Lib.hid (Bk.new (w := w) rfl 3 en1)
  have bw : Below w.heap.size w (w.alloc (.cells en1 3)) := (Below.refl _ _).alloc (Nat.le_refl _) _
  change Code.wp Try.prog _ _ _ (w.alloc (.cells en1 3))
  generalize w.alloc (.cells en1 3) = w1 at B1 bw ⊢
  go_loopw [10] (fun i wr => ∃ j : Nat, j ≤ 8 ∧ i = .int .i64 j ∧ Hid (Bk wr w.heap.size 3 en1) ∧ Below w.heap.size w wr) (fun i _ => 8 - (intOf i).toNat)
  case atStart => exact ⟨0, by omega, rfl, B1, bw⟩
  case round =>
    clear B1 bw
    obtain ⟨j, hj, rfl, hB, bwr⟩ := hrel
    by_cases hlt : j < 8
    · obtain ⟨c, hc, hc2⟩ := en1_at j hlt
      have hcell : wr.cell? ⟨w.heap.size, j, none⟩ = some (.int .i64 c) := by rw [hB.out.cell]; exact hc
      have WM := Lib.hid (show IntKind.u64.wrap (c : Int) = c from by unfold IntKind.wrap; simp [IntKind.bits, IntKind.signed]; omega)
      obtain ⟨R, hR⟩ : ∃ R, R = closeR [2, 0, 0, 0, 0, 0, 0, 0, 0, 0, 0, 0, 0, 0, 0, 0] (c : Int) 5 (List.replicate c 0) := ⟨_, rfl⟩
      have hRl : R.1.length ≤ 8192 := by rw [hR]; exact closeR_len _ _ _ _
      obtain ⟨L, hL⟩ : ∃ L, L = R.1 := ⟨_, rfl⟩
      obtain ⟨E, hE⟩ : ∃ L, L = R.2 := ⟨_, rfl⟩
      rw [← hL] at hRl
      obtain ⟨lt, hlt2⟩ : ∃ x, x = L.length := ⟨_, rfl⟩
      have HT := Lib.hid hlt2.symm
      have hltb : lt ≤ 8192 := by omega
      have C1 : Hid (∀ (W : World) (p : Pt), p.l = List.replicate c 0 → p.In W W.heap.size → Calls Try.prog 48 #[(.agg #[.int .u8 2, .int .u8 0, .int .u8 0, .int .u8 0, .int .u8 0, .int .u8 0, .int .u8 0, .int .u8 0, .int .u8 0, .int .u8 0, .int .u8 0, .int .u8 0, .int .u8 0, .int .u8 0, .int .u8 0, .int .u8 0]), .int .u64 (c : Int), .int .u8 5, p.V] W (TupPost L E W)) := Lib.hid (fun W p h1 i1 => by
        have h := close_all [2, 0, 0, 0, 0, 0, 0, 0, 0, 0, 0, 0, 0, 0, 0, 0] rfl (c : Int) (by omega) (by omega) 5 p W i1 (by rw [h1]; simp; omega)
        rw [h1, ← hR, ← hL, ← hE] at h
        exact h)
      have C2 : Hid (∀ (W : World) (p : Pt), p.l = List.replicate c 0 → p.In W W.heap.size → Calls Try.prog 49 #[(.agg #[.int .u8 2, .int .u8 0, .int .u8 0, .int .u8 0, .int .u8 0, .int .u8 0, .int .u8 0, .int .u8 0, .int .u8 0, .int .u8 0, .int .u8 0, .int .u8 0, .int .u8 0, .int .u8 0, .int .u8 0, .int .u8 0]), .int .u64 (c : Int), .int .u8 5, p.V] W (TupPost L E W)) := Lib.hid (fun W p h1 i1 => by
        have h := rclose_all [2, 0, 0, 0, 0, 0, 0, 0, 0, 0, 0, 0, 0, 0, 0, 0] rfl (c : Int) (by omega) (by omega) 5 p W i1 (by rw [h1]; simp; omega)
        rw [h1, ← hR, ← hL, ← hE] at h
        exact h)
      have O5 : Hid (∀ (W : World) (p : Pt), p.l = L → p.In W W.heap.size → Calls Try.prog 50 #[(.agg #[.int .u8 2, .int .u8 0, .int .u8 0, .int .u8 0, .int .u8 0, .int .u8 0, .int .u8 0, .int .u8 0, .int .u8 0, .int .u8 0, .int .u8 0, .int .u8 0, .int .u8 0, .int .u8 0, .int .u8 0, .int .u8 0]), .int .u8 5, p.V] W fun e w' => e = .returned (.bool true) ∧ Ex W w') := Lib.hid (fun W p h1 i1 => by
        have h := l5open_any [2, 0, 0, 0, 0, 0, 0, 0, 0, 0, 0, 0, 0, 0, 0, 0] rfl 5 p W i1 (by rw [h1]; omega)
        exact h)
      have O6 : Hid (∀ (W : World) (p : Pt), p.l = L → p.In W W.heap.size → Calls Try.prog 50 #[(.agg #[.int .u8 2, .int .u8 0, .int .u8 0, .int .u8 0, .int .u8 0, .int .u8 0, .int .u8 0, .int .u8 0, .int .u8 0, .int .u8 0, .int .u8 0, .int .u8 0, .int .u8 0, .int .u8 0, .int .u8 0, .int .u8 0]), .int .u8 6, p.V] W fun e w' => e = .returned (.bool true) ∧ Ex W w') := Lib.hid (fun W p h1 i1 => by
        have h := l5open_any [2, 0, 0, 0, 0, 0, 0, 0, 0, 0, 0, 0, 0, 0, 0, 0] rfl 6 p W i1 (by rw [h1]; omega)
        exact h)
      clear hc hR hL hE hRl hlt2
      go_wp2_with ((with_reducible refine at_any ?_ ?_); (focus go_simp); (refine fun K hK => wp_mk _ _ rfl c rfl rfl (by omega) (fun w2 o2 x2 => hK _ _ ?_)))
      have P2 := own_ptN o2 (by simp)
      have SC := C1.out w2 _ rfl P2
      have SC : Hid (Calls Try.prog 48 #[(.agg #[.int .u8 2, .int .u8 0, .int .u8 0, .int .u8 0, .int .u8 0, .int .u8 0, .int .u8 0, .int .u8 0, .int .u8 0, .int .u8 0, .int .u8 0, .int .u8 0, .int .u8 0, .int .u8 0, .int .u8 0, .int .u8 0]), .int .u64 (c : Int), .int .u8 5, .slice (some ⟨wr.heap.size, 0, none⟩) c c] w2 (TupPost L E w2)) := by
        unfold Pt.V at SC
        simp only [List.length_replicate] at SC
        exact Lib.hid SC
      have B2 := Lib.hid (hB.out.ext x2)
      have bw2 : Below w.heap.size w w2 := bwr.trans (x2.mono bwr.size)
      clear C1 P2 o2 x2 hB bwr hcell hK
      refine SC.out.mono ?_
      rintro e w3 ⟨r, rfl, rl, ri, x3⟩
      have B3 := Lib.hid (B2.out.ext x3)
      have bw3 : Below w.heap.size w w3 := bw2.trans (x3.mono bw2.size)
      have hrv : r.V = .slice r.ad lt r.cap := by unfold Pt.V; rw [rl, HT.out]
      rw [hrv]
      have RL := Lib.hid rl
      have RI := Lib.hid ri
      have RV := Lib.hid hrv
      clear SC x3 B2 bw2 rl ri hrv
      go_wp2_with ((with_reducible refine at_any ?_ ?_); (focus go_simp); (refine fun K hK => wp_mk _ _ rfl c rfl rfl (by omega) (fun w4 o4 x4 => hK _ _ ?_)))
      have P2 := own_ptN o4 (by simp)
      have SC := C2.out w4 _ rfl P2
      have SC : Hid (Calls Try.prog 49 #[(.agg #[.int .u8 2, .int .u8 0, .int .u8 0, .int .u8 0, .int .u8 0, .int .u8 0, .int .u8 0, .int .u8 0, .int .u8 0, .int .u8 0, .int .u8 0, .int .u8 0, .int .u8 0, .int .u8 0, .int .u8 0, .int .u8 0]), .int .u64 (c : Int), .int .u8 5, .slice (some ⟨w3.heap.size, 0, none⟩) c c] w4 (TupPost L E w4)) := by
        unfold Pt.V at SC
        simp only [List.length_replicate] at SC
        exact Lib.hid SC
      have B4 := Lib.hid (B3.out.ext x4)
      have bw4 : Below w.heap.size w w4 := bw3.trans (x4.mono bw3.size)
      have RI4 := Lib.hid (RI.out.ext x4)
      clear C2 P2 o4 x4 B3 bw3 RI hK
      refine SC.out.mono ?_
      rintro e w5 ⟨q, rfl, ql, qi, x5⟩
      have B5 := Lib.hid (B4.out.ext x5)
      have bw5 : Below w.heap.size w w5 := bw4.trans (x5.mono bw4.size)
      have hqv : q.V = .slice q.ad lt q.cap := by unfold Pt.V; rw [ql, HT.out]
      rw [hqv]
      have RI5 := RI4.out.ext x5
      have cv := pt_conv r w5 RI5
      rw [RL.out, HT.out] at cv
      have cv2 := pt_conv q w5 qi
      rw [ql, HT.out] at cv2
      have OC := O5.out w5 r RL.out RI5
      rw [RV.out] at OC
      have OC := Lib.hid OC
      have RI5 := Lib.hid RI5
      generalize strL L = s1 at cv cv2
      clear SC x5 B4 bw4 ql qi hqv RI4 O5
      go_wp2_with fail
      refine OC.out.mono ?_
      rintro e w6 ⟨rfl, x6⟩
      have B6 := Lib.hid (B5.out.ext x6)
      have bw6 : Below w.heap.size w w6 := bw5.trans (x6.mono bw5.size)
      have OC := O6.out w6 r RL.out (RI5.out.ext x6)
      rw [RV.out] at OC
      have OC := Lib.hid OC
      clear cv cv2 x6 B5 bw5 RI5 O6
      go_wp2_with fail
      refine OC.out.mono ?_
      rintro e w7 ⟨rfl, x7⟩
      have B7 := Lib.hid (B6.out.ext x7)
      have bw7 : Below w.heap.size w w7 := bw6.trans (x7.mono bw6.size)
      clear x7 B6 bw6 OC RL RV HT
      go_wp2_with fail
      go_roundw
      case rel => exact ⟨j + 1, by omega, by go_num, B7, bw7⟩
      case measure => simp [intOf]; omega
    · have hj8 : ¬ j < 8 := hlt
      go_wp2_with fail
      clear hB hj hlt hj8
      generalize (Value.int .i64 (j : Int)) = jv
      have OZ : Hid (∀ (W : World) (p : Pt), p.l.length ≤ 10000 → p.In W W.heap.size → Calls Try.prog 50 #[(.agg #[.int .u8 0, .int .u8 0, .int .u8 0, .int .u8 0, .int .u8 0, .int .u8 0, .int .u8 0, .int .u8 0, .int .u8 0, .int .u8 0, .int .u8 0, .int .u8 0, .int .u8 0, .int .u8 0, .int .u8 0, .int .u8 0]), .int .u8 0, p.V] W fun e w' => e = .returned (.bool true) ∧ Ex W w') := Lib.hid (fun W p h1 i1 => by
        have h := l5open_any [0, 0, 0, 0, 0, 0, 0, 0, 0, 0, 0, 0, 0, 0, 0, 0] rfl 0 p W i1 (by omega)
        exact h)
      go_loopw [7] (fun i wr => ∃ j : Nat, j ≤ 20 ∧ i = .int .i64 j ∧ Below w.heap.size w wr) (fun i _ => 20 - (intOf i).toNat)
      case atStart => exact ⟨0, by omega, rfl, bwr⟩
      case round =>
        clear bwr
        obtain ⟨j, hj, rfl, bwr⟩ := hrel
        by_cases hlt : j < 20
        · go_wp2_with ((with_reducible refine at_any ?_ ?_); (focus go_simp); (refine fun K hK => wp_mk _ _ rfl j rfl rfl (by omega) (fun w2 o2 x2 => hK _ _ ?_)))
          have P2 := own_ptN o2 (by simp)
          have OC := OZ.out w2 _ (by simp; omega) P2
          unfold Pt.V at OC
          simp only [List.length_replicate] at OC
          have OC := Lib.hid OC
          have bw2 : Below w.heap.size w w2 := bwr.trans (x2.mono bwr.size)
          clear P2 o2 x2 bwr hK
          refine OC.out.mono ?_
          rintro e w3 ⟨rfl, x3⟩
          have bw3 : Below w.heap.size w w3 := bw2.trans (x3.mono bw2.size)
          clear x3 OC bw2
          go_wp2_with fail
          go_roundw
          case rel => exact ⟨j + 1, by omega, by go_num, bw3⟩
          case measure => simp [intOf]; omega
        · have hj20 : ¬ j < 20 := hlt
          go_wp2_with ((with_reducible refine at_any ?_ ?_); (focus go_simp); (refine fun K hK => wp_mk _ _ rfl 8193 rfl rfl (by omega) (fun w2 o2 x2 => hK _ _ ?_)))
          have P2 := own_ptN o2 (by simp)
          have OC := OZ.out w2 _ (by simp) P2
          unfold Pt.V at OC
          simp only [List.length_replicate] at OC
          have OC := Lib.hid OC
          have bw2 : Below w.heap.size w w2 := bwr.trans (x2.mono bwr.size)
          clear P2 o2 x2 bwr hK
          refine OC.out.mono ?_
          rintro e w3 ⟨rfl, x3⟩
          have bw3 : Below w.heap.size w w3 := bw2.trans (x3.mono bw2.size)
          clear x3 OC bw2
          go_wp2_with fail
          refine (known5_any w3).mono ?_
          rintro e w4 ⟨rfl, x4⟩
          have bw4 : Below w.heap.size w w4 := bw3.trans (x4.mono bw3.size)
          clear x4 bw3
          go_wp2_with fail
          go_ret
          exact ⟨rfl, bw4⟩
theorem envelopeNumbers_law (w : World) :
    Calls Try.prog 16 #[] w fun e w' => e = .returned (.bool true) ∧ Below w.heap.size w w' := enumbers_any w
end Go.Proofs.Ytkneeocicbadjaa
