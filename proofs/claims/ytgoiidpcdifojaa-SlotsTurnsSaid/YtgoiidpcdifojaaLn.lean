/- disks: Turn -/
import Derived.Test.YtgoiidpcdifojaaLm
namespace Go.Proofs.Ytgoiidpcdifojaa
open Go.RowKit
open Sm (by8)
def BOwn (l : List UInt8) (w : World) (e : Ending) (w' : World) : Prop := ∃ v, e = .returned v ∧ Sm.ownU w' w.heap.size v l ∧ Ex w w'
set_option maxHeartbeats 4000000 in
set_option maxRecDepth 100000 in
theorem bclone_own (p : Sm.Pt) (h8 : p.l.length ≤ 1000000) (w : World) (hp : p.In w w.heap.size) : Calls Try.prog 45 #[p.V] w (BOwn p.l w) := by
  obtain ⟨ad, cap, l⟩ := p
  cases ad with
  | none =>
    obtain rfl : cap = 0 := hp.nil rfl
    have h0 : l = [] := List.eq_nil_of_length_eq_zero (Nat.le_zero.1 hp.cap)
    subst h0
    unfold Sm.Pt.V
    have q43 : ∀ (w : World) (a : Option Addr) (n c n' c' : Nat), (binOp .eql 27 (.slice a n c) (.slice none n' c')).run Try.prog w = .ok (.bool a.isNone) w := fun w a n c n' c' => Lib.run_eql_slice_nil w _ _ a n c n' c' Try.underlying27
    go_enter Try.func45, Try.ntmps45
    go_wp2_with fail
    go_ret
    exact ⟨_, rfl, World.ownsRow_nil _ _ _ _, Below.refl _ _⟩
  | some ad =>
    unfold Sm.Pt.V
    simp only at h8 ⊢
    obtain ⟨n, hn⟩ : ∃ n, n = l.length := ⟨_, rfl⟩
    have HN := Lib.hid hn
    have xa : Ex w (w.alloc (.cells (#[] : Array Value) 5)) := (Below.refl _ _).alloc (Nat.le_refl _) _
    have OW := Lib.hid (show Sm.ownU (w.alloc (.cells (#[] : Array Value) 5)) w.heap.size (.slice (some ⟨w.heap.size, 0, none⟩) 0 0) [] from World.ownsRow_lit w #[] 0 (Nat.le_refl _) (by unfold maxLen; omega) rfl)
    have HP := Lib.hid (hp.ext xa)
    have XA := Lib.hid xa
    rw [← hn] at h8 ⊢
    have H8 := Lib.hid h8
    have NEWS := Lib.hid (show 0 < n → ∃ ad', some ad = some ad' ∧ ∀ j u, (Lib.byteCells l)[j]? = some u → (w.alloc (.cells (#[] : Array Value) 5)).cell? (ad'.add j) = some u from fun h => by
      obtain ⟨a, o, e, hl, hc⟩ := HP.out.read (by show 0 < l.length; rw [← hn]; exact h)
      refine ⟨ad, rfl, fun j u hu => ?_⟩
      have hj : j < l.length := by have := (List.getElem?_eq_some_iff.1 hu).1; simpa [Lib.byteCells] using this
      have e : ad = ⟨a, o, none⟩ := Option.some.inj e
      subst e
      rw [Addr.add_lit, hc j hj, ← hu]
      simp [Lib.byteCells, List.getD, hj])
    clear hn hp xa
    have q43 : ∀ (w : World) (a : Option Addr) (n c n' c' : Nat), (binOp .eql 27 (.slice a n c) (.slice none n' c')).run Try.prog w = .ok (.bool a.isNone) w := fun w a n c n' c' => Lib.run_eql_slice_nil w _ _ a n c n' c' Try.underlying27
    go_enter Try.func45, Try.ntmps45
    go_wp2_with (at_builtin; refine Sm.sm_append rfl (.tmp 5) (.tmp 6) rfl w.heap.size _ 0 (Lib.byteCells []) rfl OW.out (some ad) n cap l rfl ?_ HN.out.symm ?_ ?_ ?_ ?_; (focus (exact fun h => by cases h)); (focus (exact NEWS.out)); (focus (have := H8.out; omega)); (focus (exact XA.out.size)); intro v3 w3 hown3 hg3; have HO3 := Lib.hid hown3; have HG3 := Lib.hid hg3; clear hown3 hg3)
    go_ret
    have bx : Below w.heap.size (w.alloc (.cells (#[] : Array Value) 5)) w3 := (Below.refl _ _).grown HG3.out XA.out.size (fun x hx => (World.ownsRow.lt OW.out x hx).1)
    have ow : Sm.ownU w3 w.heap.size v3 l := by
      have h := HO3.out
      unfold Sm.ownU
      rw [← HN.out]
      simpa [Lib.byteCells] using h
    exact ⟨v3, rfl, ow, Below.trans XA.out bx⟩
theorem own_put7 {w : World} {B g n c : Nat} {l : List UInt8} (h : Sm.ownU w B (.slice (some ⟨g, 0, none⟩) n c) l) (hn : l.length = n) (j : Nat) (x : UInt8) : Sm.ownU (w.setCell ⟨g, j, none⟩ (.int .u8 x.toNat)) B (.slice (some ⟨g, 0, none⟩) n c) (l.set j x) := by
  unfold Sm.ownU at h ⊢
  rw [List.length_set, hn]
  rw [hn] at h
  have k := (World.ownsRow.stored h j (.int .u8 x.toNat)).1
  have e : (Lib.byteCells l).set j (.int .u8 x.toNat) = Lib.byteCells (l.set j x) := by simp [Lib.byteCells, List.map_set]
  rw [e] at k
  exact k
theorem own_at7 {w : World} {B g n c : Nat} {l : List UInt8} (h : Sm.ownU w B (.slice (some ⟨g, 0, none⟩) n c) l) (hn : l.length = n) (j : Nat) (hj : j < n) : w.cell? ⟨g, j, none⟩ = some (.int .u8 (l.getD j 0).toNat) ∧ w.frozen? ⟨g, j, none⟩ = false := by
  unfold Sm.ownU at h
  rw [hn] at h
  refine ⟨?_, World.ownsRow.frozenAt h j⟩
  rw [World.ownsRow.cellAt h j (by omega)]
  simp [Lib.byteCells, List.getD, hn, hj]
def flipA (l : List UInt8) (a : Nat) : List UInt8 := l.set a (by8 (bits .xor .u8 (l.getD a 0).toNat 1))
theorem xor_u87 (b : UInt8) : bits .xor .u8 (b.toNat : Int) 1 % 256 = bits .xor .u8 (b.toNat : Int) 1 := by
  have h : ((List.range 256).all fun n => decide (bits .xor .u8 ((n : Nat) : Int) 1 % 256 = bits .xor .u8 ((n : Nat) : Int) 1)) = true := by decide +kernel
  rw [List.all_eq_true] at h
  simpa using h b.toNat (by simp; exact b.toNat_lt)
def turnC (c : Dc) (n : Nat) (a : Int) : Dc :=
  if 0 ≤ a ∧ a < ((c.now.getD n (false, [])).2.length : Nat) then ⟨c.now.set n ((c.now.getD n (false, [])).1, flipA (c.now.getD n (false, [])).2 a.toNat), c.las.set n ((c.now.getD n (false, [])).1, flipA (c.now.getD n (false, [])).2 a.toNat), c.pend, c.lst, c.put⟩ else c
def turnB (c : Dc) (n : Nat) (a : Int) : Bool := decide (0 ≤ a ∧ a < ((c.now.getD n (false, [])).2.length : Nat))
theorem slC_set1 : ∀ (l : List (Bool × Sm.Pt)) (n : Nat) (b : Bool) (p x : Sm.Pt), l[n]? = some (b, p) → (slC l).set (2 * n + 1) x.V = slC (l.set n (b, x))
  | [], _, _, _, _, h => by simp at h
  | y :: r, 0, b, p, x, h => by
    obtain rfl : y = (b, p) := by simpa using h
    rfl
  | y :: r, n + 1, b, p, x, h => by
    have ih := slC_set1 r n b p x (by simpa using h)
    have e : slC (y :: r) = .bool y.1 :: y.2.V :: slC r := rfl
    rw [List.set_cons_succ, e, show slC (y :: r.set n (b, x)) = .bool y.1 :: y.2.V :: slC (r.set n (b, x)) from rfl, ← ih, show 2 * (n + 1) + 1 = 2 * n + 1 + 1 + 1 by omega]
    rfl
theorem dk_set_las (A B E : List Value) (hA : A.length = 20) (hB : B.length = 20) (n : Nat) (hn : n < 10) (x y : Value) : (A ++ B ++ E).take (20 + 2 * n) ++ [x, y] ++ (A ++ B ++ E).drop (20 + 2 * n + [x, y].length) = A ++ (B.take (2 * n) ++ [x, y] ++ B.drop (2 * n + 2)) ++ E := by
  have e : A ++ B ++ E = A ++ (B ++ E) := List.append_assoc ..
  have t1 : (A ++ (B ++ E)).take (20 + 2 * n) = A ++ B.take (2 * n) := by
    rw [List.take_append, List.take_of_length_le (by omega), hA, show 20 + 2 * n - 20 = 2 * n by omega, List.take_append_of_le_length (by omega)]
  have t2 : (A ++ (B ++ E)).drop (20 + 2 * n + 2) = B.drop (2 * n + 2) ++ E := by
    rw [List.drop_append, List.drop_of_length_le (by omega), hA, show 20 + 2 * n + 2 - 20 = 2 * n + 2 by omega, List.drop_append_of_le_length (by omega), List.nil_append]
  rw [e, show [x, y].length = 2 from rfl, t1, t2]
  simp only [List.append_assoc]
set_option maxHeartbeats 4000000 in
set_option maxRecDepth 100000 in
theorem turn_no (g : Nat) (n : Nat) (hn : n < 10) (a : Int) (c : Dc) (w : World) (h : DK w g c) (hno : ¬ (0 ≤ a ∧ a < ((c.now.getD n (false, [])).2.length : Nat))) : Calls Try.prog 23 #[.pointer (some ⟨g, 0, none⟩), .int .i64 n, .int .i64 a] w fun e w' => e = .returned (.bool false) ∧ w = w' := by
  obtain ⟨d, hd, hc⟩ := h
  obtain ⟨⟨tb, p⟩, hx⟩ : ∃ x, d.now[n]? = some x := ⟨_, List.getElem?_eq_getElem (by rw [hd.n10]; exact hn)⟩
  have hcx := ct_now hc n _ hx
  rw [hcx] at hno
  simp only at hno
  have S := Lib.hid (isslot_any (n : Int) w)
  rw [decide_eq_true (by omega : 0 ≤ (n : Int)), decide_eq_true (by omega : (n : Int) < 10)] at S
  obtain ⟨k1, k2⟩ := dk_now_at hd n _ hx
  rw [Nat.mul_comm 2 n] at k1 k2
  have q0 : (0 : Int) ≤ (n : Int) := by omega
  have q1 : (n : Int) < 10 := by omega
  unfold Sm.Pt.V at k2
  simp only at k1 k2
  generalize p.l.length = pl at *
  clear hd hc hx hcx
  by_cases ha : a < 0
  · clear hno
    go_enter Try.func23, Try.ntmps23
    go_wp2_with fail
    refine S.out.mono ?_
    rintro e w1 ⟨rfl, rfl⟩
    clear S
    go_wp2_with fail
    go_ret
    exact ⟨rfl, rfl⟩
  · have hge : (pl : Int) ≤ a := by omega
    have ha' : decide (a < 0) = false := by simpa using ha
    clear hno
    go_enter Try.func23, Try.ntmps23
    go_wp2_with fail
    refine S.out.mono ?_
    rintro e w1 ⟨rfl, rfl⟩
    clear S
    go_wp2_with fail
    go_ret
    exact ⟨rfl, rfl⟩
theorem wp_ld69 {o : Oper} {a : Act} {w : World} {K : Act → World → Prop} {Q : Exit → Act → World → Prop} (x : Operand) (g off : Nat) (b : Bool) (v : Value) (ho : o.op = .load 69 x) (ha : a.eval x = .pointer (some ⟨g, off, none⟩)) (h0 : w.cell? ⟨g, off, none⟩ = some (.bool b)) (h1 : w.cell? ⟨g, off + 1, none⟩ = some v) (hk : K (a.put o.dst (.agg #[.bool b, v])) w) : o.wp Try.prog a w K Q := by
  obtain ⟨dd, hd⟩ : ∃ d, Try.prog.underlying 69 = some d ∧ d.isRow = true := ⟨_, Try.underlying69, rfl⟩
  refine wp_load_mid 69 x ho g off ha [.bool b, v] dd (fun j u hu => ?_) hd.1 hd.2 (by rw [Try.size69]; rfl) hk
  match j, hu with
  | 0, hu => rw [← hu]; exact h0
  | 1, hu => rw [← hu]; exact h1
  | j + 2, hu => simp at hu
set_option maxHeartbeats 4000000 in
set_option maxRecDepth 100000 in
theorem turn_go (g : Nat) (n : Nat) (hn : n < 10) (a : Nat) (c : Dc) (w : World) (h : DK w g c) (hL : (c.now.getD n (false, [])).2.length ≤ 1000000) (hyes : a < (c.now.getD n (false, [])).2.length) : Calls Try.prog 23 #[.pointer (some ⟨g, 0, none⟩), .int .i64 n, .int .i64 a] w (MdPostB g (turnC c n a) true w) := by
  have hT : turnC c n a = ⟨c.now.set n ((c.now.getD n (false, [])).1, flipA (c.now.getD n (false, [])).2 a), c.las.set n ((c.now.getD n (false, [])).1, flipA (c.now.getD n (false, [])).2 a), c.pend, c.lst, c.put⟩ := by
    unfold turnC; rw [if_pos (by omega)]; rfl
  rw [hT]
  obtain ⟨d, hd, hc⟩ := h
  obtain ⟨⟨tb, p⟩, hx⟩ : ∃ x, d.now[n]? = some x := ⟨_, List.getElem?_eq_getElem (by rw [hd.n10]; exact hn)⟩
  have hcx := ct_now hc n _ hx
  rw [hcx] at hyes hL ⊢
  simp only at hyes hL ⊢
  have S := Lib.hid (isslot_any (n : Int) w)
  rw [decide_eq_true (by omega : 0 ≤ (n : Int)), decide_eq_true (by omega : (n : Int) < 10)] at S
  obtain ⟨k1, k2⟩ := dk_now_at hd n _ hx
  rw [Nat.mul_comm 2 n] at k1 k2
  have q0 : (0 : Int) ≤ (n : Int) := by omega
  have q1 : (n : Int) < 10 := by omega
  have Z0 := Lib.hid q0
  have Z1 := Lib.hid q1
  have CL := Lib.hid (bclone_own p hL w (hd.nin n _ hx))
  obtain ⟨pl, hpl⟩ : ∃ x, x = p.l.length := ⟨_, rfl⟩
  have HPL := Lib.hid hpl
  have HD := Lib.hid hd
  have HCT := Lib.hid hc
  have HX := Lib.hid hx
  have I2 := Lib.hid hn
  have GLT0 := Lib.hid hd.blk.lt
  unfold Sm.Pt.V at k2 CL
  simp only at k1 k2
  rw [← hpl] at k2 CL hyes
  have a0 : (0 : Int) ≤ (a : Int) := by omega
  have a1 : (a : Int) < (pl : Int) := by omega
  have A2 := Lib.hid hyes
  clear hd hc hx hcx hpl hL hT hn
  go_enter Try.func23, Try.ntmps23
  go_wp2_with fail
  refine S.out.mono ?_
  rintro e w1 ⟨rfl, rfl⟩
  clear S
  go_wp2_with fail
  refine CL.out.mono ?_
  rintro e w2 ⟨v, rfl, how, xr⟩
  have hfm := how
  unfold Sm.ownU at hfm
  rw [← HPL.out] at hfm
  obtain ⟨g3, cap, rfl, hg3, hg3l, hcap⟩ := Sm.own_form hfm (by have := A2.out; omega)
  obtain ⟨o1, o2⟩ := own_at7 how HPL.out.symm a A2.out
  obtain ⟨xb, hxb⟩ : ∃ xb : Int, xb = ((p.l.getD a 0).toNat : Int) := ⟨_, rfl⟩
  have xb0 : 0 ≤ xb := by rw [hxb]; omega
  have xb1 : xb < 256 := by rw [hxb]; have := (p.l.getD a 0).toNat_lt; omega
  rw [← hxb] at o1
  have HXB := Lib.hid hxb
  have OW := Lib.hid how
  have XR := Lib.hid xr
  have G3 := Lib.hid hg3
  have D2 := Lib.hid (HD.out.ext xr)
  have w21 : w2.cell? ⟨g, n * 2 + 1, none⟩ = some (.slice p.ad pl p.cap) := (xr.cell (p := ⟨g, n * 2 + 1, none⟩) GLT0.out).trans k2
  have w2r : w2.frozen? ⟨g, n * 2 + 1, none⟩ = false := D2.out.blk.fr _
  have gne : g3 ≠ g := by have := GLT0.out; omega
  have GNE := Lib.hid gne
  clear CL how hfm xr hxb hg3 k1 k2
  go_wp2_with fail
  generalize hw6 : (w2.setCell ⟨g3, a, none⟩ (.int .u8 (bits .xor .u8 xb 1))).setCell ⟨g, n * 2 + 1, none⟩ (.slice (some ⟨g3, 0, none⟩) pl cap) = w6 at *
  have e8 : (.int .u8 (bits .xor .u8 xb 1) : Value) = .int .u8 ((by8 (bits .xor .u8 (p.l.getD a 0).toNat 1)).toNat : Int) := by rw [HXB.out, Sm.by8_int, xor_u87]
  obtain ⟨w5, hw5⟩ : ∃ w5, w5 = w2.setCell ⟨g3, a, none⟩ (.int .u8 (bits .xor .u8 xb 1)) := ⟨_, rfl⟩
  have X5 : Ex w w5 := by rw [hw5]; exact Below.setCell (show Below w.heap.size w w2 from XR.out) (p := ⟨g3, a, none⟩) G3.out _
  have OW5 : Sm.ownU w5 w.heap.size (.slice (some ⟨g3, 0, none⟩) pl cap) (flipA p.l a) := by rw [hw5, e8]; exact own_put7 OW.out HPL.out.symm a _
  have D5 := HD.out.ext X5
  rw [← hw5] at hw6
  obtain ⟨q, hqv, hql, hqi, _⟩ := Sm.own_pt OW5
  have m1 : Md g w5 w6 := by rw [← hw6]; exact md_set g _ _ w5
  have b6 := D5.blk.put (n * 2 + 1) (.slice (some ⟨g3, 0, none⟩) pl cap)
  rw [hw6] at b6
  have e6 : d.C.setIfInBounds (n * 2 + 1) (.slice (some ⟨g3, 0, none⟩) pl cap) = (Dk.mk (d.now.set n (tb, q)) d.las d.pend d.lst d.put).C := by
    unfold Dk.C
    rw [List.setIfInBounds_toArray, hqv]
    congr 1
    have hlt : n * 2 + 1 < (slC d.now).length := by rw [slC20 HD.out.n10]; have := I2.out; omega
    rw [List.append_assoc, List.set_append_left _ _ hlt, Nat.mul_comm n 2, slC_set1 d.now n tb p q HX.out, ← List.append_assoc]
  rw [e6] at b6
  have HQV := Lib.hid hqv
  have HQL := Lib.hid hql
  have M6 := Lib.hid m1
  have B6 := Lib.hid b6
  have QI6 := Lib.hid (pt_md hqi D5.blk m1)
  have D5h := Lib.hid D5
  have X5h := Lib.hid X5
  have N20 := Lib.hid (slC20 (show (d.now.set n (tb, q)).length = 10 by simp [HD.out.n10]))
  have L20 := Lib.hid (slC20 HD.out.l10)
  have GLT := Lib.hid b6.lt
  have A6 : Hid ((Dk.mk (d.now.set n (tb, q)) d.las d.pend d.lst d.put).At w6 g) := Lib.hid ⟨b6, by simp [HD.out.n10], HD.out.l10, fun i x hx => (by
      simp only at hx
      rw [List.getElem?_set] at hx
      split at hx
      · split at hx
        · obtain rfl : (tb, q) = x := Option.some.inj hx
          exact pt_md hqi D5.blk m1
        · cases hx
      · exact pt_md (D5.nin i x hx) D5.blk m1), fun i x hx => pt_md (D5.lin i x hx) D5.blk m1, pt_md D5.pin D5.blk m1⟩
  obtain ⟨r1, r2⟩ := dk_now_at A6.out n (tb, q) (by show (d.now.set n (tb, q))[n]? = _; rw [List.getElem?_set]; rw [if_pos rfl, if_pos (by rw [HD.out.n10]; exact I2.out)])
  rw [Nat.mul_comm 2 n] at r1 r2
  simp only at r1 r2
  have W0 := Lib.hid r1
  have W1 := Lib.hid (show w6.cell? ⟨g, n * 2 + 1, none⟩ = some (.slice (some ⟨g3, 0, none⟩) pl cap) by rw [hqv]; exact r2)
  clear hw6 hw5 e8 X5 OW5 D5 hqv hql hqi m1 b6 e6 r1 r2 o1 o2 w21 w2r gne xb0 xb1 OW XR
  obtain ⟨T, hT⟩ : ∃ T : List Ar, T = [.is (.pointer (some ⟨g, 0, none⟩)), .is (.int .i64 n), .is (.pointer (some ⟨g, 0, none⟩)), .is (.int .i64 n), .is (.pointer (some ⟨g, 0, none⟩)), .is (.pointer (some ⟨g, 0, none⟩)), .is (.pointer (some ⟨g, n * 2, none⟩)), .is (.agg #[.bool tb, .slice (some ⟨g3, 0, none⟩) pl cap]), .is (.pointer (some ⟨g, 0, none⟩)), .is (.pointer (some ⟨g, 20, none⟩)), .is (.pointer (some ⟨g, 20 + n * 2, none⟩))] := ⟨_, rfl⟩
  refine wp_region_flow 11 (arPhi T) (by kernel_rfl) rfl (by kernel_rfl) (by kernel_rfl) (by kernel_rfl) (arPhi_stable T) (fitB_spec (by kernel_rfl)) ?_ ?_
  · intro i o hi ho
    have hi' : i = 0 ∨ i = 1 ∨ i = 2 ∨ i = 3 ∨ i = 4 ∨ i = 5 ∨ i = 6 ∨ i = 7 ∨ i = 8 ∨ i = 9 ∨ i = 10 := by omega
    clear hi
    rcases hi' with rfl | rfl | rfl | rfl | rfl | rfl | rfl | rfl | rfl | rfl | rfl
    all_goals (simp only [List.getElem?_toArray, List.getElem?_cons_zero, List.getElem?_cons_succ, Option.some.injEq] at ho; subst ho; intro a w7 hx hsz hdep hout)
    · rw [if_pos (by rfl)]
      intro K hK
      have q0 := hout 0 (outB_spec (by kernel_rfl))
      exact wp_mv _ rfl (hK _ _ (Ex.refl _) (by rw [hT]; exact q0))
    · rw [if_pos (by rfl)]
      intro K hK
      have q1 := hout 1 (outB_spec (by kernel_rfl))
      exact wp_mv _ rfl (hK _ _ (Ex.refl _) (by rw [hT]; exact q1))
    · rw [if_pos (by rfl)]
      intro K hK
      have q0 := hout 0 (outB_spec (by kernel_rfl))
      exact wp_mv _ rfl (hK _ _ (Ex.refl _) (by rw [hT]; exact q0))
    · rw [if_pos (by rfl)]
      intro K hK
      have q1 := hout 1 (outB_spec (by kernel_rfl))
      exact wp_mv _ rfl (hK _ _ (Ex.refl _) (by rw [hT]; exact q1))
    · rw [if_pos (by rfl)]
      intro K hK
      obtain ⟨v50, h50, k50⟩ := hdep ⟨2, .data⟩ (by simp) rfl _ rfl
      have q50 := k50 _ rfl
      clear k50
      rw [hT] at h50
      obtain rfl : v50 = .pointer (some ⟨g, 0, none⟩) := h50
      rw [Array.getD_eq_getD_getElem?] at q50
      clear hsz hdep hout
      have z0 := Z0.out
      have z1 := Z1.out
      go_simp
      exact hK _ _ (Ex.refl _) (by rw [hT]; rfl)
    · rw [if_pos (by rfl)]
      intro K hK
      obtain ⟨v52, h52, k52⟩ := hdep ⟨4, .data⟩ (by simp) rfl _ rfl
      have q52 := k52 _ rfl
      clear k52
      rw [hT] at h52
      obtain rfl : v52 = .pointer (some ⟨g, 0, none⟩) := h52
      rw [Array.getD_eq_getD_getElem?] at q52
      clear hsz hdep hout
      have z0 := Z0.out
      have z1 := Z1.out
      go_simp
      exact hK _ _ (Ex.refl _) (by rw [hT]; rfl)
    · rw [if_pos (by rfl)]
      intro K hK
      obtain ⟨v53, h53, k53⟩ := hdep ⟨5, .data⟩ (by simp) rfl _ rfl
      have q53 := k53 _ rfl
      clear k53
      rw [hT] at h53
      obtain rfl : v53 = .pointer (some ⟨g, 0, none⟩) := h53
      obtain ⟨v51, h51, k51⟩ := hdep ⟨3, .data⟩ (by simp) rfl _ rfl
      have q51 := k51 _ rfl
      clear k51
      rw [hT] at h51
      obtain rfl : v51 = .int .i64 n := h51
      rw [Array.getD_eq_getD_getElem?] at q53
      rw [Array.getD_eq_getD_getElem?] at q51
      clear hsz hdep hout
      have z0 := Z0.out
      have z1 := Z1.out
      go_simp
      exact hK _ _ (Ex.refl _) (by rw [hT]; rfl)
    · rw [if_pos (by rfl)]
      intro K hK
      obtain ⟨v54, h54, k54⟩ := hdep ⟨6, .data⟩ (by simp) rfl _ rfl
      have q54 := k54 _ rfl
      clear k54
      rw [hT] at h54
      obtain rfl : v54 = .pointer (some ⟨g, n * 2, none⟩) := h54
      exact wp_ld69 _ g (n * 2) tb (.slice (some ⟨g3, 0, none⟩) pl cap) rfl q54 ((hx.cell (p := ⟨g, n * 2, none⟩) GLT.out).trans W0.out) ((hx.cell (p := ⟨g, n * 2 + 1, none⟩) GLT.out).trans W1.out) (hK _ _ (Ex.refl _) (by rw [hT]; rfl))
    · rw [if_pos (by rfl)]
      intro K hK
      obtain ⟨v48, h48, k48⟩ := hdep ⟨0, .data⟩ (by simp) rfl _ rfl
      have q48 := k48 _ rfl
      clear k48
      rw [hT] at h48
      obtain rfl : v48 = .pointer (some ⟨g, 0, none⟩) := h48
      rw [Array.getD_eq_getD_getElem?] at q48
      clear hsz hdep hout
      have z0 := Z0.out
      have z1 := Z1.out
      go_simp
      exact hK _ _ (Ex.refl _) (by rw [hT]; rfl)
    · rw [if_pos (by rfl)]
      intro K hK
      obtain ⟨v56, h56, k56⟩ := hdep ⟨8, .data⟩ (by simp) rfl _ rfl
      have q56 := k56 _ rfl
      clear k56
      rw [hT] at h56
      obtain rfl : v56 = .pointer (some ⟨g, 0, none⟩) := h56
      rw [Array.getD_eq_getD_getElem?] at q56
      clear hsz hdep hout
      have z0 := Z0.out
      have z1 := Z1.out
      go_simp
      exact hK _ _ (Ex.refl _) (by rw [hT]; rfl)
    · rw [if_pos (by rfl)]
      intro K hK
      obtain ⟨v57, h57, k57⟩ := hdep ⟨9, .data⟩ (by simp) rfl _ rfl
      have q57 := k57 _ rfl
      clear k57
      rw [hT] at h57
      obtain rfl : v57 = .pointer (some ⟨g, 20, none⟩) := h57
      obtain ⟨v49, h49, k49⟩ := hdep ⟨1, .data⟩ (by simp) rfl _ rfl
      have q49 := k49 _ rfl
      clear k49
      rw [hT] at h49
      obtain rfl : v49 = .int .i64 n := h49
      rw [Array.getD_eq_getD_getElem?] at q57
      rw [Array.getD_eq_getD_getElem?] at q49
      clear hsz hdep hout
      have z0 := Z0.out
      have z1 := Z1.out
      go_simp
      exact hK _ _ (Ex.refl _) (by rw [hT]; rfl)
  · intro a w7 hx hdef hsz hdone hout
    obtain ⟨v55, h55, k55⟩ := hdone 7 _ (by omega) rfl
    have q55 := k55 _ rfl
    clear k55
    rw [hT] at h55
    obtain rfl : v55 = .agg #[.bool tb, .slice (some ⟨g3, 0, none⟩) pl cap] := h55
    obtain ⟨v58, h58, k58⟩ := hdone 10 _ (by omega) rfl
    have q58 := k58 _ rfl
    clear k58
    rw [hT] at h58
    obtain rfl : v58 = .pointer (some ⟨g, 20 + n * 2, none⟩) := h58
    clear hdone hT
    have hA := arr_range a.tmps 59 hsz
    change a.tmps = #[a.tmps[0]?.getD undef, a.tmps[1]?.getD undef, a.tmps[2]?.getD undef, a.tmps[3]?.getD undef, a.tmps[4]?.getD undef, a.tmps[5]?.getD undef, a.tmps[6]?.getD undef, a.tmps[7]?.getD undef, a.tmps[8]?.getD undef, a.tmps[9]?.getD undef, a.tmps[10]?.getD undef, a.tmps[11]?.getD undef, a.tmps[12]?.getD undef, a.tmps[13]?.getD undef, a.tmps[14]?.getD undef, a.tmps[15]?.getD undef, a.tmps[16]?.getD undef, a.tmps[17]?.getD undef, a.tmps[18]?.getD undef, a.tmps[19]?.getD undef, a.tmps[20]?.getD undef, a.tmps[21]?.getD undef, a.tmps[22]?.getD undef, a.tmps[23]?.getD undef, a.tmps[24]?.getD undef, a.tmps[25]?.getD undef, a.tmps[26]?.getD undef, a.tmps[27]?.getD undef, a.tmps[28]?.getD undef, a.tmps[29]?.getD undef, a.tmps[30]?.getD undef, a.tmps[31]?.getD undef, a.tmps[32]?.getD undef, a.tmps[33]?.getD undef, a.tmps[34]?.getD undef, a.tmps[35]?.getD undef, a.tmps[36]?.getD undef, a.tmps[37]?.getD undef, a.tmps[38]?.getD undef, a.tmps[39]?.getD undef, a.tmps[40]?.getD undef, a.tmps[41]?.getD undef, a.tmps[42]?.getD undef, a.tmps[43]?.getD undef, a.tmps[44]?.getD undef, a.tmps[45]?.getD undef, a.tmps[46]?.getD undef, a.tmps[47]?.getD undef, a.tmps[48]?.getD undef, a.tmps[49]?.getD undef, a.tmps[50]?.getD undef, a.tmps[51]?.getD undef, a.tmps[52]?.getD undef, a.tmps[53]?.getD undef, a.tmps[54]?.getD undef, a.tmps[55]?.getD undef, a.tmps[56]?.getD undef, a.tmps[57]?.getD undef, a.tmps[58]?.getD undef] at hA
    have e0 := hout 0 (fun i o _ h => outB_spec (by kernel_rfl) i o h)
    have e1 := hout 1 (fun i o _ h => outB_spec (by kernel_rfl) i o h)
    have e2 := hout 2 (fun i o _ h => outB_spec (by kernel_rfl) i o h)
    have e3 := hout 3 (fun i o _ h => outB_spec (by kernel_rfl) i o h)
    have e4 := hout 4 (fun i o _ h => outB_spec (by kernel_rfl) i o h)
    have e5 := hout 5 (fun i o _ h => outB_spec (by kernel_rfl) i o h)
    have e6 := hout 6 (fun i o _ h => outB_spec (by kernel_rfl) i o h)
    have e7 := hout 7 (fun i o _ h => outB_spec (by kernel_rfl) i o h)
    have e8 := hout 8 (fun i o _ h => outB_spec (by kernel_rfl) i o h)
    have e9 := hout 9 (fun i o _ h => outB_spec (by kernel_rfl) i o h)
    have e10 := hout 10 (fun i o _ h => outB_spec (by kernel_rfl) i o h)
    have e11 := hout 11 (fun i o _ h => outB_spec (by kernel_rfl) i o h)
    have e12 := hout 12 (fun i o _ h => outB_spec (by kernel_rfl) i o h)
    have e13 := hout 13 (fun i o _ h => outB_spec (by kernel_rfl) i o h)
    have e14 := hout 14 (fun i o _ h => outB_spec (by kernel_rfl) i o h)
    have e15 := hout 15 (fun i o _ h => outB_spec (by kernel_rfl) i o h)
    have e16 := hout 16 (fun i o _ h => outB_spec (by kernel_rfl) i o h)
    have e17 := hout 17 (fun i o _ h => outB_spec (by kernel_rfl) i o h)
    have e18 := hout 18 (fun i o _ h => outB_spec (by kernel_rfl) i o h)
    have e19 := hout 19 (fun i o _ h => outB_spec (by kernel_rfl) i o h)
    have e20 := hout 20 (fun i o _ h => outB_spec (by kernel_rfl) i o h)
    have e21 := hout 21 (fun i o _ h => outB_spec (by kernel_rfl) i o h)
    have e22 := hout 22 (fun i o _ h => outB_spec (by kernel_rfl) i o h)
    have e23 := hout 23 (fun i o _ h => outB_spec (by kernel_rfl) i o h)
    have e24 := hout 24 (fun i o _ h => outB_spec (by kernel_rfl) i o h)
    have e25 := hout 25 (fun i o _ h => outB_spec (by kernel_rfl) i o h)
    have e26 := hout 26 (fun i o _ h => outB_spec (by kernel_rfl) i o h)
    have e27 := hout 27 (fun i o _ h => outB_spec (by kernel_rfl) i o h)
    have e28 := hout 28 (fun i o _ h => outB_spec (by kernel_rfl) i o h)
    have e29 := hout 29 (fun i o _ h => outB_spec (by kernel_rfl) i o h)
    have e30 := hout 30 (fun i o _ h => outB_spec (by kernel_rfl) i o h)
    have e31 := hout 31 (fun i o _ h => outB_spec (by kernel_rfl) i o h)
    have e32 := hout 32 (fun i o _ h => outB_spec (by kernel_rfl) i o h)
    have e33 := hout 33 (fun i o _ h => outB_spec (by kernel_rfl) i o h)
    have e34 := hout 34 (fun i o _ h => outB_spec (by kernel_rfl) i o h)
    have e35 := hout 35 (fun i o _ h => outB_spec (by kernel_rfl) i o h)
    have e36 := hout 36 (fun i o _ h => outB_spec (by kernel_rfl) i o h)
    have e37 := hout 37 (fun i o _ h => outB_spec (by kernel_rfl) i o h)
    have e38 := hout 38 (fun i o _ h => outB_spec (by kernel_rfl) i o h)
    have e39 := hout 39 (fun i o _ h => outB_spec (by kernel_rfl) i o h)
    have e40 := hout 40 (fun i o _ h => outB_spec (by kernel_rfl) i o h)
    have e41 := hout 41 (fun i o _ h => outB_spec (by kernel_rfl) i o h)
    have e42 := hout 42 (fun i o _ h => outB_spec (by kernel_rfl) i o h)
    have e43 := hout 43 (fun i o _ h => outB_spec (by kernel_rfl) i o h)
    have e44 := hout 44 (fun i o _ h => outB_spec (by kernel_rfl) i o h)
    have e45 := hout 45 (fun i o _ h => outB_spec (by kernel_rfl) i o h)
    have e46 := hout 46 (fun i o _ h => outB_spec (by kernel_rfl) i o h)
    have e47 := hout 47 (fun i o _ h => outB_spec (by kernel_rfl) i o h)
    simp only [Array.getD_eq_getD_getElem?, List.getElem?_toArray, List.getElem?_cons_zero, List.getElem?_cons_succ, Option.getD_some] at e0 e1 e2 e3 e4 e5 e6 e7 e8 e9 e10 e11 e12 e13 e14 e15 e16 e17 e18 e19 e20 e21 e22 e23 e24 e25 e26 e27 e28 e29 e30 e31 e32 e33 e34 e35 e36 e37 e38 e39 e40 e41 e42 e43 e44 e45 e46 e47
    rw [e0, e1, e2, e3, e4, e5, e6, e7, e8, e9, e10, e11, e12, e13, e14, e15, e16, e17, e18, e19, e20, e21, e22, e23, e24, e25, e26, e27, e28, e29, e30, e31, e32, e33, e34, e35, e36, e37, e38, e39, e40, e41, e42, e43, e44, e45, e46, e47] at hA
    clear e0 e1 e2 e3 e4 e5 e6 e7 e8 e9 e10 e11 e12 e13 e14 e15 e16 e17 e18 e19 e20 e21 e22 e23 e24 e25 e26 e27 e28 e29 e30 e31 e32 e33 e34 e35 e36 e37 e38 e39 e40 e41 e42 e43 e44 e45 e46 e47 hout
    have hds2 : a.defers = [] := hdef
    have ea : a = ⟨a.tmps, a.defers⟩ := rfl
    rw [Array.getD_eq_getD_getElem?] at q55
    rw [Array.getD_eq_getD_getElem?] at q58
    rw [hA, hds2, q55, q58] at ea
    clear hA hds2 q55 q58 hdef
    generalize a.tmps[48]?.getD undef = y48 at ea
    generalize a.tmps[49]?.getD undef = y49 at ea
    generalize a.tmps[50]?.getD undef = y50 at ea
    generalize a.tmps[51]?.getD undef = y51 at ea
    generalize a.tmps[52]?.getD undef = y52 at ea
    generalize a.tmps[53]?.getD undef = y53 at ea
    generalize a.tmps[54]?.getD undef = y54 at ea
    generalize a.tmps[56]?.getD undef = y56 at ea
    generalize a.tmps[57]?.getD undef = y57 at ea
    clear hsz
    subst ea
    have bx : Ex w6 w7 := Ex.trans (show Ex w6 w6.drew from (Below.refl _ _).drew) hx
    unfold wpOp
    simp only [List.getElem?_toArray, List.getElem?_cons_zero, List.getElem?_cons_succ]
    rw [if_pos (by rfl)]
    left
    have A7 := Lib.hid (A6.out.ext bx)
    rw [HQV.out]
    refine wp_st69 _ _ g (20 + 2 * n) tb q rfl (by rw [Nat.mul_comm 2 n]; rfl) rfl (slC (d.now.set n (tb, q)) ++ slC d.las ++ [.int .i64 d.pend, .int .i64 d.lst, d.put.V]) A7.out.blk (by have := I2.out; simp [N20.out, L20.out]; omega) (fun w8 hd8 ho => ?_)
    rw [dk_set_las _ _ _ N20.out L20.out n I2.out] at hd8
    rw [← slC_set d.las n (tb, q) (by rw [HD.out.l10]; exact I2.out)] at hd8
    have M8 := Lib.hid ((M6.out.trans (Ex.md (g := g) bx (Nat.le_of_lt GLT.out))).trans ho.md)
    have B8 := Lib.hid hd8
    have m8 := ho.md
    have HH := A7.out
    have QI8 := Lib.hid (pt_md (Sm.Pt.In.ext QI6.out bx) HH.blk m8)
    have A8 : Hid ((Dk.mk (d.now.set n (tb, q)) (d.las.set n (tb, q)) d.pend d.lst d.put).At w8 g) := Lib.hid ⟨hd8, HH.n10, by simp [HD.out.l10], fun i x hx => pt_md (HH.nin i x hx) HH.blk m8, fun i x hx => (by
      simp only at hx
      rw [List.getElem?_set] at hx
      split at hx
      · split at hx
        · obtain rfl : (tb, q) = x := Option.some.inj hx
          exact QI8.out
        · cases hx
      · exact pt_md (HH.lin i x hx) HH.blk m8), pt_md HH.pin HH.blk m8⟩
    clear hd8 ho m8 HH bx hx A6 A7 QI8 B8 B6 GLT W0 W1
    go_wp2_with fail
    go_ret
    refine ⟨rfl, ⟨_, A8.out, ?_⟩, (Ex.md (g := g) X5h.out (Nat.le_of_lt GLT0.out)).trans M8.out⟩
    rw [← HCT.out]
    unfold Dk.ct
    simp only [ctL_set, HQL.out]
end Go.Proofs.Ytgoiidpcdifojaa
