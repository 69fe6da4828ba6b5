/- MSmH -/
import Derived.Test.YtopamplmpfndlaaEaf
import Derived.Laws.CopyOwn
import Derived.Deep.MidRow
set_option maxRecDepth 100000
set_option maxHeartbeats 16000000
namespace Go.Proofs.Ytopamplmpfndlaa.Sm
open Go.RowKit
def iv : Wd := ⟨1668047222, 1768383858, 1801807216, 1935763045⟩
theorem iv_ok : iv.Ok := ⟨by unfold isW iv; decide, by unfold isW iv; decide, by unfold isW iv; decide, by unfold isW iv; decide⟩
def take8 (s : Wd) (f : Nat → UInt8) : Wd := takeW s (word4 (f 0) (f 1) (f 2) (f 3)) (word4 (f 4) (f 5) (f 6) (f 7))
theorem takeW_ok {s : Wd} (h : s.Ok) {x y : Int} (hx : isW x) (hy : isW y) : (takeW s x y).Ok := stirN_ok (s := ⟨xorW s.a x, s.b, s.c, xorW s.d y⟩) ⟨xorW_w h.a hx, h.b, h.c, xorW_w h.d hy⟩ 3
theorem take8_ok {s : Wd} (h : s.Ok) (f : Nat → UInt8) : (take8 s f).Ok := takeW_ok h (word4_w _ _ _ _) (word4_w _ _ _ _)
def absb (f : Nat → UInt8) : Nat → Wd
 | 0 => iv
 | j + 1 => take8 (absb f j) (fun i => f (8 * j + i))
theorem absb_ok (f : Nat → UInt8) : ∀ j, (absb f j).Ok
 | 0 => iv_ok
 | j + 1 => take8_ok (absb_ok f j) _
def padF (l : List UInt8) (i : Nat) : UInt8 :=
 if i < l.length then l.getD i 0 else if i = l.length then 128 else if i < 8 * (l.length / 8 + 1) then 0 else by8 ((l.length : Int) / 256 ^ (i - 8 * (l.length / 8 + 1)))
theorem padF_in (l : List UInt8) {i : Nat} (h : i < l.length) : padF l i = l.getD i 0 := by unfold padF; simp [h]
def sumS (l : List UInt8) : Wd := stirN 8 (absb (padF l) (l.length / 8 + 2))
theorem sumS_ok (l : List UInt8) : (sumS l).Ok := stirN_ok (absb_ok _ _) 8
def sumL (l : List UInt8) : List UInt8 := digL (sumS l)
def zero16 : Array Value := #[.int .u8 0, .int .u8 0, .int .u8 0, .int .u8 0, .int .u8 0, .int .u8 0, .int .u8 0, .int .u8 0, .int .u8 0, .int .u8 0, .int .u8 0, .int .u8 0, .int .u8 0, .int .u8 0, .int .u8 0, .int .u8 0]
def zero8 : Array Value := #[.int .u8 0, .int .u8 0, .int .u8 0, .int .u8 0, .int .u8 0, .int .u8 0, .int .u8 0, .int .u8 0]
def rowF (f : Nat → UInt8) (m : Nat) : List Value := (List.range m).map fun i => .int .u8 (f i).toNat
theorem rowF_len (f : Nat → UInt8) (m : Nat) : (rowF f m).length = m := by simp [rowF]
theorem rowF_at (f : Nat → UInt8) {m i : Nat} (h : i < m) : (rowF f m)[i]? = some (.int .u8 (f i).toNat) := by simp [rowF, h]
theorem splice_at (f : Nat → UInt8) (m : Nat) (hm : m < 8) : ∀ i, i < 8 → (splice zero8.toList 0 (rowF f m)).toArray[i]? = some (.int .u8 (if i < m then f i else 0).toNat) := by
 intro i hi
 unfold splice
 simp only [List.take_zero, List.nil_append, Nat.zero_add, rowF_len, List.getElem?_toArray]
 by_cases h : i < m
 ·rw [List.getElem?_append_left (by rw [rowF_len]; exact h), rowF_at f h, if_pos h]
 rw [List.getElem?_append_right (by rw [rowF_len]; omega), rowF_len, List.getElem?_drop, if_neg h, show m + (i - m) = i by omega]
 match i, hi with
 | 0, _ => rfl
 | 1, _ => rfl
 | 2, _ => rfl
 | 3, _ => rfl
 | 4, _ => rfl
 | 5, _ => rfl
 | 6, _ => rfl
 | 7, _ => rfl
theorem splice_len (f : Nat → UInt8) (m : Nat) (hm : m < 8) : (splice zero8.toList 0 (rowF f m)).toArray.size = 8 := by
 unfold splice; simp [rowF_len, zero8]; omega
theorem padF_mark (l : List UInt8) (i : Nat) (h : i = l.length) : padF l i = 128 := by unfold padF; simp [h]
theorem padF_zero (l : List UInt8) (i : Nat) (h : l.length < i) (h' : i < 8 * (l.length / 8 + 1)) : padF l i = 0 := by
 unfold padF; rw [if_neg (by omega), if_neg (by omega), if_pos h']
theorem padF_low (l : List UInt8) (j m : Nat) (h : l.length = m + 8 * j) (hm : m < 8) (i : Nat) : padF l (8 * (j + 1) + i) = by8 ((l.length : Int) / 256 ^ i) := by
 have e : l.length / 8 = j := by omega
 unfold padF; rw [if_neg (by omega), if_neg (by omega), e, if_neg (by omega), show 8 * (j + 1) + i - 8 * (j + 1) = i by omega]
theorem lowC_at (n : Int) : ∀ i, i < 8 → (lowC n)[i]? = some (.int .u8 (by8 (n / 256 ^ i)).toNat) := by
 intro i hi
 rw [by8_int]
 match i, hi with
 | 0, _ => simp [lowC]
 | 1, _ => rfl
 | 2, _ => rfl
 | 3, _ => rfl
 | 4, _ => rfl
 | 5, _ => rfl
 | 6, _ => rfl
 | 7, _ => rfl
theorem sm_dsize : (Try.prog.info? 36).map (·.size) = some 16 := by kernel_rfl
theorem bytes_one (l : List UInt8) : (Lib.byteCells l).toArray.all (·.oneCell') = true := all_oneCell_toArray (by
 intro v hv
 unfold Lib.byteCells at hv
 simp at hv
 obtain ⟨b, _, rfl⟩ := hv
 rfl)
theorem Bk.there {w : World} {g : Nat} {t : TypeId} {cs : Array Value} (h : Bk w g t cs) (n : Nat) (hn : cs.size = n) : w.there g 0 n := by
 intro j hj
 refine ⟨?_, h.fr _⟩
 rw [h.cell]; simp; omega
theorem sm_at_store {P : Program} {ops : Array Oper} {rest : List Oper} {d : Option Tmp} {ty t2 : TypeId} {x y : Operand} {pos : String} {af : Array Edge} {g : Option (Nat × Bool)} {a : Act} {w : World} {Q : Exit → Act → World → Prop}
  (hw : Region.wanted { dst := d, op := .store ty x y, type := t2, pos := pos, after := af, guard := g } (yielded ops a.tmps) = true)
  (k : ∀ K : Act → World → Prop, (∀ a w, wpList P ops Q rest a w → K a w) → Oper.wp P { dst := d, op := .store ty x y, type := t2, pos := pos, after := af, guard := g } a w K Q) : wpList P ops Q ({ dst := d, op := .store ty x y, type := t2, pos := pos, after := af, guard := g } :: rest) a w :=
 wpList_step fun K hK => by rw [if_pos hw]; exact k K hK
theorem sm_below_setCells {B b : Nat} {a : World} : ∀ (vs : List Value) (o : Nat) (w : World), B ≤ b → Below B a w → Below B a (w.setCells b o vs)
 | [], _, _, _, h => h
 | v :: r, o, w, hb, h => sm_below_setCells r (o + 1) (w.setCell ⟨b, o, none⟩ v) hb (h.setCell (p := ⟨b, o, none⟩) hb v)
theorem sm_results_cell {fn : Func} {a : Tmp} {t : TypeId} (h : fn.results = #[.cell a t]) (tmps : Array Value) (P : Program) (w : World) (b o : Nat) (ha : tmps.getD a undef = .pointer (some ⟨b, o, none⟩))
  (cs : List Value) (d : TypeDesc) (hc : w.rangeAt b o cs) (hu : P.underlying t = some d) (hd : d.isRow = true) (hi : (P.info? t).map (·.size) = some cs.length) :
  (results fn tmps).run P w = .ok (.agg cs.toArray) w := by
 have ha' : tmps[a]?.getD undef = .pointer (some ⟨b, o, none⟩) := by simpa using ha
 simp [results, h, ha', asAddr, run_loadVar_mid w b o t cs d hc hu hd hi, Sem.run_bind]
def lenS : Value → Nat
 | .slice _ n _ => n
 | _ => 0
theorem Bk.new {w : World} {g : Nat} (hg : g = w.heap.size) (t : TypeId) (cs : Array Value) : Bk (w.alloc (.cells cs t)) g t cs := by subst hg; exact heap_alloc_new w _
theorem Bk.lt {w : World} {g : Nat} {t : TypeId} {cs : Array Value} (h : Bk w g t cs) : g < w.heap.size := by
 rcases Nat.lt_or_ge g w.heap.size with hlt | hge
 ·exact hlt
 unfold Bk at h; rw [Array.getElem?_eq_none hge] at h; cases h
theorem Bk.more {w : World} {g : Nat} {t : TypeId} {cs : Array Value} (h : Bk w g t cs) (o : Obj) : Bk (w.alloc o) g t cs := (Below.heap_alloc w o g h.lt).trans h
theorem Bk.under {w w' : World} {B g : Nat} {t : TypeId} {cs : Array Value} (h : Bk w g t cs) (hb : Below B w w') (hg : g < B) : Bk w' g t cs := (hb.block g hg).trans h
theorem Bk.only {w w' : World} {row : Option Nat} {g : Nat} {t : TypeId} {cs : Array Value} (h : Bk w g t cs) (hb : w.grownBy w' row) (hg : some g ≠ row) : Bk w' g t cs := (hb.block g h.lt hg).trans h
theorem below_only {B g : Nat} {a w w' : World} (h : Below B a w) (hg : w.grownBy w' (some g)) (hB : B ≤ g) (hw : B ≤ w.heap.size) : Below B a w' :=
 h.grown hg hw (fun k hk => by injection hk with hk; omega)
theorem take_at (s : Wd) (ok : s.Ok) (B A o n c : Nat) (hn : 8 ≤ n) (hc : n ≤ c) (f : Nat → UInt8) (w : World) (hB : Bk w B 163 s.cells)
  (hf : ∀ i, i < 8 → w.cell? ⟨A, o + i, none⟩ = some (.int .u8 (f i).toNat)) (hA : A ≠ B) :
  Calls Try.prog 113 #[.pointer (some ⟨B, 0, none⟩), .slice (some ⟨A, o, none⟩) n c] w fun e w' => e = .returned (.tuple #[]) ∧ Bk w' B 163 (take8 s f).cells ∧ w.grownBy w' (some B) :=
 take_any s ok B A o n c hn hc (f 0) (f 1) (f 2) (f 3) (f 4) (f 5) (f 6) (f 7) w hB (hf 0 (by omega)) (hf 1 (by omega)) (hf 2 (by omega)) (hf 3 (by omega)) (hf 4 (by omega)) (hf 5 (by omega)) (hf 6 (by omega)) (hf 7 (by omega)) hA
theorem sum_core0 (l : List UInt8) (Ad : Option Addr) (A o c : Nat) (hc : l.length ≤ c) (hm : l.length < 4611686018427387904) (w : World) (hAd : 0 < l.length → Ad = some ⟨A, o, none⟩) (hA0 : 0 < l.length → A < w.heap.size)
  (hl : ∀ i, i < l.length → w.cell? ⟨A, o + i, none⟩ = some (.int .u8 (l.getD i 0).toNat)) :
  Calls Try.prog 69 #[.slice Ad l.length c] w fun e w' => e = .returned (digV (sumL l)) ∧ Below w.heap.size w w' := by
 obtain ⟨n, hn⟩ : ∃ n, n = l.length := ⟨_, rfl⟩
 rw [← hn] at hc hm hAd hl hA0 ⊢
 have HA0 := Lib.hid hA0
 clear hA0
 have HL := Lib.hid hl
 have HN := Lib.hid hn
 have HAd := Lib.hid hAd
 clear hl hn hAd
 go_enter Try.func69, Try.ntmps69
 go_wp2
 go_loopw [0] (fun b wr => ∃ (j m : Nat) (Ae : Option Addr) (ce : Nat), b = .slice Ae m ce ∧ m ≤ ce ∧ Hid (m + 8 * j = n) ∧ Hid (0 < m → Ae = some ⟨A, o + 8 * j, none⟩) ∧ Hid (Bk wr (w.heap.size + 1) 163 (absb (padF l) j).cells) ∧ Hid (Bk wr w.heap.size 36 zero16) ∧ Below w.heap.size w wr) (fun b _ => lenS b)
 case atStart =>
  refine ⟨0, n, Ad, c, rfl, hc, Lib.hid (by omega), Lib.hid (fun h => HAd.out h), Lib.hid (Bk.new (by simp) _ _), Lib.hid ((Bk.new rfl _ _).more _), ((Below.refl _ _).alloc (Nat.le_refl _) _).alloc (by simp) _⟩
 obtain ⟨j, m, Ae, ce, rfl, hce, hj, hAe, hB, hD, hb⟩ := hrel
 by_cases hlt : 8 ≤ m
 ·have hAe' := hAe.out (by omega)
  have hjn : m + 8 * j = n := hj.out
  have hA : A < w.heap.size := HA0.out (by omega)
  have hf : ∀ i, i < 8 → wr.cell? ⟨A, (o + 8 * j) + i, none⟩ = some (.int .u8 ((fun i => padF l (8 * j + i)) i).toNat) := by
   intro i hi
   have h1 := HL.out (8 * j + i) (by omega)
   have e : 8 * j + i < l.length := by rw [← HN.out]; omega
   rw [hb.cell (p := ⟨A, _, none⟩) hA, Nat.add_assoc, h1]
   simp only [padF_in l e]
  have T := Lib.hid (take_at (absb (padF l) j) (absb_ok _ _) (w.heap.size + 1) A (o + 8 * j) 8 ce (by omega) (by omega) _ wr hB.out hf (by omega))
  subst hAe'
  clear hf hjn
  have hz := hb.size
  by_cases h8 : ce = 8
  ·subst h8
   obtain rfl : m = 8 := by omega
   go_wp2_with fail
   refine T.out.mono ?_
   rintro e w1 ⟨rfl, h1, o1⟩
   have h1 := Lib.hid h1
   have o1 := Lib.hid o1
   clear T
   go_wp2_with fail
   go_roundw
   case rel =>
    refine ⟨j + 1, 0, _, _, rfl, by omega, Lib.hid (by have := hj.out; omega), Lib.hid (fun h => absurd h (by omega)), h1, Lib.hid (hD.out.only o1.out (by simp)), below_only hb o1.out (by omega) hz⟩
   case measure => (simp [lenS] <;> omega)
  go_wp2_with fail
  refine T.out.mono ?_
  rintro e w1 ⟨rfl, h1, o1⟩
  have h1 := Lib.hid h1
  have o1 := Lib.hid o1
  clear T
  go_wp2_with fail
  go_roundw
  case rel =>
   refine ⟨j + 1, m - 8, _, _, rfl, by omega, Lib.hid (by have := hj.out; omega), Lib.hid (fun h => by rw [show o + 8 * (j + 1) = o + 8 * j + 8 by omega]), h1, Lib.hid (hD.out.only o1.out (by simp)), below_only hb o1.out (by omega) hz⟩
  case measure => (simp [lenS] <;> omega)
 have hz := hb.size
 have hjn : m + 8 * j = n := hj.out
 have hgl := hB.out.lt
 have C := Lib.hid (Bk.new (w := wr) rfl 165 zero8)
 have K := Lib.hid (show ∀ i v, (rowF (fun i => padF l (8 * j + i)) m)[i]? = some v → (wr.alloc (.cells zero8 165)).cell? ⟨A, o + 8 * j + i, none⟩ = some v from by
  intro i v hv
  have hi : i < m := by have := (List.getElem?_eq_some_iff.1 hv).1; rw [rowF_len] at this; exact this
  have hA : A < w.heap.size := HA0.out (by omega)
  rw [rowF_at _ hi] at hv
  have h1 := HL.out (8 * j + i) (by omega)
  have e : 8 * j + i < l.length := by rw [← HN.out]; omega
  rw [World.cell?_alloc_lt _ _ _ (by simp; omega), hb.cell (p := ⟨A, _, none⟩) hA, Nat.add_assoc, h1, ← hv]
  simp only [padF_in l e])
 go_wp2_with (with_reducible refine wpList_copy_splice rfl (.tmp 18) (.tmp 19) 23 23 rfl 5 Try.underlying23 (by kernel_rfl) (some ⟨wr.heap.size, 0, none⟩) Ae 8 8 m ce rfl rfl wr.heap.size 0 zero8.toList 165 ?_ (rowF (fun i => padF l (8 * j + i)) m) ?_ ?_ ?_ ?_ wr.heap.size _ (Below.refl _ _) (Nat.le_refl _) ?_)
 ·exact C.out
 ·rw [rowF_len]; exact (Nat.min_eq_left (by omega)).symm
 ·intro h
  rw [rowF_len] at h
  exact ⟨_, hAe.out h, fun i v hv => by rw [Addr.add_mid]; exact K.out i v hv⟩
 ·rw [rowF_len]; simp [zero8]; omega
 ·intro v hv
  simp [rowF] at hv
  obtain ⟨i, _, rfl⟩ := hv
  rfl
 intro w1 hw1 hb1
 clear K C
 have hC := Lib.hid (show ∀ i, i < 8 → (splice zero8.toList 0 (rowF (fun i => padF l (8 * j + i)) m)).toArray[i]? = some (.int .u8 (if i < m then padF l (8 * j + i) else 0).toNat) from splice_at _ m (by omega))
 have cm : w1.cell? ⟨wr.heap.size, m, none⟩ = some (.int .u8 0) := by
  have h := (show Bk w1 wr.heap.size 165 _ from hw1.out).cell m
  rw [hC.out m (by omega)] at h
  simpa using h
 have fm : w1.frozen? ⟨wr.heap.size, m, none⟩ = false := (show Bk w1 wr.heap.size 165 _ from hw1.out).fr m
 have m8 : (m : Int) < 8 := by omega
 have m0 : (0 : Int) ≤ (m : Int) := by omega
 go_wp2_with fail
 have fin := Lib.hid (show ∀ i, i < 8 → (w1.setCell ⟨wr.heap.size, m, none⟩ (.int .u8 128)).cell? ⟨wr.heap.size, 0 + i, none⟩ = some (.int .u8 ((fun i => padF l (8 * j + i)) i).toNat) from by
  intro i hi
  have hk := ((show Bk w1 wr.heap.size 165 _ from hw1.out).put m (.int .u8 128)).cell (0 + i)
  rw [hk, Nat.zero_add]
  have e1 : l.length = m + 8 * j := by rw [← HN.out]; omega
  by_cases hi1 : i = m
  ·subst hi1
   have h2 : (splice zero8.toList 0 (rowF (fun i => padF l (8 * j + i)) i)).toArray.size = 8 := by
    have h3 := (Array.getElem?_eq_some_iff.1 (hC.out 7 (by omega))).1
    have h4 := splice_len (fun i => padF l (8 * j + i)) i hi
    exact h4
   rw [Array.getElem?_setIfInBounds_self_of_lt (by rw [h2]; exact hi)]
   simp only [padF_mark l (8 * j + i) (by omega)]
   rfl
  ·rw [Array.getElem?_setIfInBounds_ne (by omega), hC.out i hi]
   by_cases h5 : i < m
   ·rw [if_pos h5]
   ·rw [if_neg h5]
    simp only [padF_zero l (8 * j + i) (by omega) (by omega)])
 have b2 : Below w.heap.size w (w1.setCell ⟨wr.heap.size, m, none⟩ (.int .u8 128)) := ((hb.alloc hz _).trans (hb1.mono hz)).setCell (p := ⟨wr.heap.size, m, none⟩) hz _
 have B2 := Lib.hid (show Bk (w1.setCell ⟨wr.heap.size, m, none⟩ (.int .u8 128)) (w.heap.size + 1) 163 (absb (padF l) j).cells from
  (Below.heap_setCell _ _ _ _ (by simp; omega)).trans ((hB.out.more _).under hb1 hgl))
 have D2 := Lib.hid (show Bk (w1.setCell ⟨wr.heap.size, m, none⟩ (.int .u8 128)) w.heap.size 36 zero16 from
  (Below.heap_setCell _ _ _ _ (by simp; omega)).trans ((hD.out.more _).under hb1 (by omega)))
 have z2 : wr.heap.size < (w1.setCell ⟨wr.heap.size, m, none⟩ (.int .u8 128)).heap.size := by have := hb1.size; simp [World.setCell] at *; omega
 generalize w1.setCell ⟨wr.heap.size, m, none⟩ (.int .u8 128) = w2 at fin b2 B2 D2 z2 ⊢
 clear hw1 hb1 cm fm hC hB hD hAe HL HAd
 have T2 := Lib.hid (take_at (absb (padF l) j) (absb_ok _ _) (w.heap.size + 1) wr.heap.size 0 8 8 (by omega) (by omega) _ w2 B2.out fin.out (by omega))
 refine T2.out.mono ?_
 rintro e w3 ⟨rfl, B3, o3⟩
 have B3 := Lib.hid B3
 have D3 := Lib.hid (D2.out.only o3 (by simp))
 have b3 := below_only b2 o3 (by omega) (by omega)
 clear T2 B2 D2 fin o3
 have z3 := b3.size
 have lw := Lib.hid (lowest_any (n : Int) (by omega) (by omega))
 go_wp2_with fail
 refine (lw.out _).mono ?_
 rintro e w4 ⟨rfl, rfl⟩
 have fin := Lib.hid (show ∀ i, i < 8 → (w3.alloc (.cells (lowC n) 5)).cell? ⟨w3.heap.size, 0 + i, none⟩ = some (.int .u8 ((fun i => padF l (8 * (j + 1) + i)) i).toNat) from by
  intro i hi
  have hk := (Bk.new (w := w3) rfl 5 (lowC n)).cell (0 + i)
  rw [hk, Nat.zero_add]
  have e1 : l.length = m + 8 * j := by rw [← HN.out]; omega
  simp only [padF_low l j m e1 (by omega), ← HN.out]
  exact lowC_at n i hi)
 have B4 := Lib.hid (B3.out.more (.cells (lowC n) 5))
 have D4 := Lib.hid (D3.out.more (.cells (lowC n) 5))
 have hg3 := B3.out.lt
 have b4 := b3.alloc z3 (.cells (lowC n) 5)
 have T3 := Lib.hid (take_at (absb (padF l) (j + 1)) (absb_ok _ _) (w.heap.size + 1) w3.heap.size 0 8 8 (by omega) (by omega) _ _ B4.out fin.out (by omega))
 clear B3 D3 lw
 generalize w3.alloc (.cells (lowC n) 5) = w4 at fin B4 D4 b4 T3 ⊢
 go_wp2_with fail
 refine T3.out.mono ?_
 rintro e w5 ⟨rfl, B5, o5⟩
 have B5 := Lib.hid B5
 have z4 := b4.size
 have D5 := Lib.hid (D4.out.only o5 (by simp))
 have b5 := below_only b4 o5 (by omega) z4
 clear T3 B4 D4 fin o5 b4 z4
 have S := Lib.hid (stir8 (absb (padF l) (j + 2)) (absb_ok _ _) (w.heap.size + 1) w5 B5.out)
 go_wp2_with fail
 refine S.out.mono ?_
 rintro e w6 ⟨rfl, B6, o6⟩
 have z5 := b5.size
 have B6 := Lib.hid B6
 have D6 := Lib.hid (D5.out.only o6 (by simp))
 have b6 := below_only b5 o6 (by omega) z5
 clear S B5 D5 o6 b5 z5
 have es : stirN 8 (absb (padF l) (j + 2)) = sumS l := by
  unfold sumS
  rw [show l.length / 8 = j by rw [← HN.out]; omega]
 rw [es] at B6
 obtain ⟨ds, hds⟩ : ∃ ds, ds = Lib.byteCells (digL (sumS l)) := ⟨_, rfl⟩
 have G := digest_any (sumS l) (sumS_ok l) (w.heap.size + 1) w6 B6
 have hv : digV (digL (sumS l)) = .agg ds.toArray := by rw [hds]; rfl
 have hdl : ds.length = 16 := by rw [hds]; simp [Lib.byteCells, digL_len]
 have HO := Lib.hid (show ds.toArray.all (·.oneCell') = true by rw [hds]; exact bytes_one _)
 rw [hv] at G
 have hw : digV (sumL l) = .agg ds.toArray := hv
 have HV := Lib.hid hw
 have hi3 := Lib.hid (show (Try.prog.info? 36).map (·.size) = some ds.toArray.size by rw [sm_dsize]; simp [hdl])
 have hi4 := Lib.hid (show (Try.prog.info? 36).map (·.size) = some ds.length by rw [sm_dsize, hdl])
 have G := Lib.hid G
 have HDL := Lib.hid hdl
 obtain ⟨dd, hd⟩ : ∃ d, Try.prog.underlying 36 = some d ∧ d.isRow = true := ⟨_, Try.underlying36, rfl⟩
 have HD := Lib.hid hd
 clear hv hw hds hdl hd es
 go_wp2_with fail
 refine G.out.mono ?_
 rintro e w7 ⟨rfl, b7⟩
 have z6 := b6.size
 have D7 := Lib.hid (D6.out.under b7 D6.out.lt)
 have bw := b6.trans (b7.mono z6)
 have TH := Lib.hid (show w7.there w.heap.size 0 ds.toArray.size by rw [show ds.toArray.size = 16 by simp [HDL.out]]; exact D7.out.there 16 rfl)
 clear D7 D6 b7 b6 G
 go_wp2_with ((with_reducible refine sm_at_store ?_ ?_); (focus go_simp); (refine fun K hK => wp_store_mid 36 _ _ rfl w.heap.size 0 ds.toArray rfl rfl TH.out hi3.out HO.out (hK _ _ ?_)))
 rw [HV.out]
 exact bodyPost_ret (sm_results_cell rfl _ _ _ w.heap.size 0 rfl ds dd (World.rangeAt_setCells_same _ _ _ _ (by simpa using TH.out)) HD.out.1 HD.out.2 hi4.out) rfl ⟨rfl, sm_below_setCells _ _ _ (Nat.le_refl _) bw⟩
theorem sum_core (l : List UInt8) (Ad : Option Addr) (A o c : Nat) (hc : l.length ≤ c) (hm : l.length < 4611686018427387904) (w : World) (hAd : 0 < l.length → Ad = some ⟨A, o, none⟩) (hA : A < w.heap.size)
  (hl : ∀ i, i < l.length → w.cell? ⟨A, o + i, none⟩ = some (.int .u8 (l.getD i 0).toNat)) :
  Calls Try.prog 69 #[.slice Ad l.length c] w fun e w' => e = .returned (digV (sumL l)) ∧ Below w.heap.size w w' := sum_core0 l Ad A o c hc hm w hAd (fun _ => hA) hl
end Go.Proofs.Ytopamplmpfndlaa.Sm
