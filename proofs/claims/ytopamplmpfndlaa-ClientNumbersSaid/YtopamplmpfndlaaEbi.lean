/- MPnD -/
import Derived.Test.YtopamplmpfndlaaEbg
import Derived.Test.YtopamplmpfndlaaEbh
import Derived.Lib.OthersKept
import Derived.WalkSmall
import Derived.Lib.Hide
import Derived.Laws.IdiomStrings
set_option maxRecDepth 100000
set_option maxHeartbeats 16000000
namespace Go.Proofs.Ytopamplmpfndlaa.Sm
open Go.RowKit
theorem Try.info5 : (Try.prog.info? 5).map (fun i => (i.zero, i.size, i.bytes)) = some (some (.int .u8 0), 1, 1) := by kernel_rfl
theorem grown_iterAt (w : World) (k : Nat) (s : ByteArray) (pos : Nat) : w.grownBy (w.iterAt k s pos) (some k) :=
 ⟨rfl, rfl, rfl, by rw [Lib.iterAt_size]; exact Nat.le_refl _, fun j _ hne => Lib.iterAt_other w k j s pos (fun e => hne (by rw [e]))⟩
theorem own_ne_iter {w : World} {B e size n : Nat} {v : Value} {xs : List Value} (h : w.ownsRow B e size v n xs) {k : Nat} {s : ByteArray} {pos : Nat} (hk : w.heap[k]? = some (.stringIter s pos)) :
  v.ownBlock ≠ some k := by
 intro e
 rcases h.2 with ⟨rfl, _⟩ | ⟨g, cap, cur, rfl, _, hg, _⟩
 ·simp [Value.ownBlock] at e
 simp [Value.ownBlock] at e
 subst e
 rw [hk] at hg
 cases hg
theorem own_iterAt {w : World} {B e size n : Nat} {v : Value} {xs : List Value} (h : w.ownsRow B e size v n xs) {k : Nat} {s : ByteArray} {pos : Nat} (hk : w.heap[k]? = some (.stringIter s pos)) (pos' : Nat) :
  (w.iterAt k s pos').ownsRow B e size v n xs :=
 h.kept (grown_iterAt w k s pos') (.inr (own_ne_iter h hk))
theorem iter_grown {w w' : World} {row : Option Nat} {k : Nat} {s : ByteArray} {pos : Nat} (hk : w.heap[k]? = some (.stringIter s pos)) (hg : w.grownBy w' row) (hne : row ≠ some k) :
  w'.heap[k]? = some (.stringIter s pos) := by
 have hlt : k < w.heap.size := (Array.getElem?_eq_some_iff.1 hk).1
 rw [hg.block k hlt (fun e => hne e.symm)]
 exact hk
theorem World.cell_new_iter (w : World) (o : Obj) {k : Nat} {x : Obj} (hk : w.heap[k]? = some x) : (w.alloc o).heap[k]? = some x := by
 rw [Below.heap_alloc w o k (Array.getElem?_eq_some_iff.1 hk).1]; exact hk
theorem ret_eq {a b : Value} (h : a = b) : Ending.returned a = .returned b := by rw [h]
theorem own_len {w : World} {B e n : Nat} {v : Value} {xs : List Value} (h : w.ownsRow B e 1 v n xs) : ∃ a c, v = .slice a n c ∧ xs.length = n ∧ n ≤ maxLen := by
 rcases h.2 with ⟨rfl, rfl⟩ | ⟨g, cap, cur, rfl, _, _, h1, h2, _⟩
 ·exact ⟨none, 0, rfl, by simpa using h.1, Nat.zero_le _⟩
 exact ⟨_, cap, rfl, by simpa using h.1, Nat.le_trans h1 h2⟩
theorem own_bytes {w : World} {B e : Nat} {v : Value} {l : List UInt8} (h : w.ownsRow B e 1 v l.length (Lib.byteCells l)) (P : Program) (src dst : TypeId) (hs : P.underlying src = some (.slice e)) (he : P.underlying e = some (.int .u8)) (hd : P.underlying dst = some .string) :
  (convert src dst v).run P w = .ok (.string ⟨l.toArray⟩) w := by
 rcases h.2 with ⟨rfl, h0⟩ | ⟨g, cap, cur, rfl, _, hg, h1, h2, h3, h4⟩
 ·have : l = [] := List.eq_nil_of_length_eq_zero h0
  subst this
  simp [convert, run_underlying hs, run_underlying he, run_underlying hd, Conv.bytesToString, Sem.run]
  rfl
 refine run_convert_bytes_back w src dst e ⟨g, 0, none⟩ cap l hs he hd ?_
 intro j hj
 have hc := h.cells (g := g) rfl j (.int .u8 (l[j].toNat : Int)) (by simp [Lib.byteCells, hj])
 exact hc
theorem nl_cons (acc : List UInt8) (r : Nat) (rs : List Nat) : nl acc (r :: rs) = if dg r = -2 then nl acc rs else if dg r = -1 ∨ acc.length = 12 then none else nl (acc ++ [dgb r]) rs := rfl
theorem normal_any (s : ByteArray) (w : World) :
  Calls Try.prog 111 #[.string s] w fun e w' => e = .returned (nrmV (signs s)) ∧ Below w.heap.size w w' := by
 obtain ⟨i0, hi, hz0, hz1, hz2⟩ := info_parts Try.info5
 go_enter Try.func111, Try.ntmps111
 go_wp2_with (first
  | (at_make; refine wpList_make_own _ rfl _ _ 23 rfl w.heap.size 5 i0 (.int .u8 0) 1 Try.underlying23 hi hz0 hz1 _ _ _ 12 rfl rfl (by omega) (by rw [hz2]; omega) (by unfold maxLen; omega) (Nat.le_refl _) ?_; intro w1 hown hgrow))
 have hsz := hgrow.size
 have hbel : Below w.heap.size w w1 := (Below.refl _ _).grown hgrow (Nat.le_refl _) (by intro k hk; cases hk)
 obtain ⟨K, hK⟩ : ∃ K, K = w1.heap.size := ⟨_, rfl⟩
 have hit0 : (w1.iter s 0).heap[K]? = some (.stringIter s 0) := by rw [hK]; exact World.iter_heap w1 s 0
 have hown0 : (w1.iter s 0).ownsRow w.heap.size 5 1 (.slice (some ⟨w.heap.size, 0, none⟩) 0 12) ([] : List UInt8).length (Lib.byteCells []) := hown.alloc _
 have hbel0 : Below w.heap.size w (w1.iter s 0) := hbel.alloc hsz _
 clear hown hgrow hbel
 rw [← hK]
 have HK := Lib.hid hK
 clear hK
 have hKb : w.heap.size ≤ K := by rw [HK.out]; exact hsz
 go_loopw [4] (fun v wr => ∃ (pos b : Nat) (acc : List UInt8), wr.heap[K]? = some (.stringIter s pos) ∧ wr.ownsRow w.heap.size 5 1 v acc.length (Lib.byteCells acc) ∧ nl acc (sg s b pos) = nl [] (signs s) ∧ s.size ≤ pos + b ∧ acc.length ≤ 12 ∧ Below w.heap.size w wr)
  (fun _ wr => s.size - wr.iterPos K)
 case atStart => exact ⟨0, s.size, [], hit0, hown0, rfl, by omega, by simp, hbel0⟩
 obtain ⟨pos, b, acc, hit, hown, hc, hb, hk, hbl⟩ := hrel
 clear hit0 hown0 hbel0
 obtain ⟨va, vc, rfl, hlen, _⟩ := own_len hown
 by_cases hp : pos < s.size
 rotate_left
 ·have hnx : ∀ ty, (Instr.next (.pointer (some ⟨K, 0, none⟩)) true ty).run Try.prog wr = _ := fun ty => Lib.run_next_end_at wr K s pos ty hit hp
  rw [sg_end s b pos hp] at hc
  have hc' : nl [] (signs s) = some acc := hc.symm
  have hconv := own_bytes hown Try.prog 23 9 Try.underlying23 Try.underlying5 Try.underlying9
  by_cases h4 : acc.length < 4
  ·have hf : nrmV (signs s) = .tuple #[.string ⟨#[]⟩, .bool false] := by unfold nrmV nrm; rw [hc']; simp [h4]
   have HF := Lib.hid hf
   clear hf hc hc'
   go_wp2
   go_ret2
   exact ⟨ret_eq HF.out.symm, hbl⟩
  have hf : nrmV (signs s) = .tuple #[.string ⟨acc.toArray⟩, .bool true] := by unfold nrmV nrm; rw [hc']; simp [h4]
  have HF := Lib.hid hf
  clear hf hc hc'
  go_wp2
  go_ret2
  exact ⟨ret_eq HF.out.symm, hbl⟩
 have hnx : ∀ ty, (Instr.next (.pointer (some ⟨K, 0, none⟩)) true ty).run Try.prog wr = _ := fun ty => Lib.run_next_any_at wr K s pos ty hit hp
 have hwd := width_pos s pos hp
 have hit2 := Lib.iterAt_heap wr K s pos (pos + (Utf8.decode s pos).2) hit
 have hown2 := own_iterAt hown hit (pos + (Utf8.decode s pos).2)
 have hbl2 := Lib.below_iterAt hbl hKb s (pos + (Utf8.decode s pos).2)
 have hb0 : 0 < b := by omega
 obtain ⟨b', rfl⟩ : ∃ b', b = b' + 1 := ⟨b - 1, by omega⟩
 have hsg : sg s (b' + 1) pos = (Utf8.decode s pos).1 :: sg s b' (pos + (Utf8.decode s pos).2) := by simp [sg, hp]
 rw [hsg, nl_cons] at hc
 clear hsg hb0
 have hr0 := decode_le s pos
 have HC := Lib.hid hc
 clear hc
 obtain ⟨wn, hwn⟩ : ∃ wn, wn = wr.iterAt K s (pos + (Utf8.decode s pos).2) := ⟨_, rfl⟩
 have hips : wr.iterPos K = pos := iterPos_of hit
 rw [← hwn] at hit2 hown2 hbl2 hnx
 have hdl : (Utf8.decode s pos).1 = ((Utf8.decode s pos).1 : Nat) := rfl
 obtain ⟨r, hr⟩ : ∃ r, r = (Utf8.decode s pos).1 := ⟨_, rfl⟩
 obtain ⟨wd, hwdd⟩ : ∃ wd, wd = (Utf8.decode s pos).2 := ⟨_, rfl⟩
 rw [← hr] at hnx HC hr0
 rw [← hwdd] at hit2 HC hwd
 clear hdl hr hwdd hwn hit hown hbl
 have hrr := dg_range r
 by_cases c1 : dg r = -2
 ·have hc2 : (((r : Int) == 32 || (r : Int) == 45 || (r : Int) == 160) : Bool) = true := by
   have := dg_cases r; simp; omega
  go_wp2_with (first
   | (go_at_call 151; refine (passedBy_any _ _ (by omega) (by omega)).mono ?_; rintro e w' ⟨rfl, rfl⟩; rw [hc2]))
  go_roundw
  case rel => exact ⟨pos + wd, b', acc, hit2, by assumption, by rw [← HC.out, if_pos c1], by omega, hk, hbl2⟩
  case measure => rw [hips, iterPos_of hit2]; omega
 have hc2 : (((r : Int) == 32 || (r : Int) == 45 || (r : Int) == 160) : Bool) = false := by
  have := dg_cases r
  rw [Bool.eq_false_iff]; simp; omega
 rw [if_neg c1] at HC
 by_cases c3 : dg r = -1
 ·rw [if_pos (.inl c3)] at HC
  have e1 : (if dg r = -1 then (0 : Int) else dg r) = 0 := if_pos c3
  have e2 : decide (dg (r : Int) ≠ -1) = false := by simp [c3]
  have hf : nrmV (signs s) = .tuple #[.string ⟨#[]⟩, .bool false] := by unfold nrmV nrm; rw [← HC.out]
  have HF := Lib.hid hf
  clear hf HC
  have HE := Lib.hid (And.intro e1 e2)
  clear e1 e2 c3
  go_wp2_with (first
   | (go_at_call 151; refine (passedBy_any _ _ (by omega) (by omega)).mono ?_; rintro e w' ⟨rfl, rfl⟩; rw [hc2])
   | (go_at_call 152; refine (digit_any _ _ (by omega) (by omega) c1).mono ?_; rintro e w' ⟨rfl, rfl⟩; rw [HE.out.1, HE.out.2]))
  go_ret2
  exact ⟨ret_eq HF.out.symm, hbl2⟩
 have e1 : (if dg r = -1 then (0 : Int) else dg r) = dg r := if_neg c3
 have e2 : decide (dg (r : Int) ≠ -1) = true := by simp [c3]
 have HE := Lib.hid (And.intro e1 e2)
 have hd0 : 0 ≤ dg r := by omega
 have hd9 : dg r ≤ 9 := by omega
 have hv := dgb_val r hd0
 have HV := Lib.hid hv
 clear e1 e2 hv
 by_cases c4 : acc.length = 12
 ·rw [if_pos (.inr c4)] at HC
  have hf : nrmV (signs s) = .tuple #[.string ⟨#[]⟩, .bool false] := by unfold nrmV nrm; rw [← HC.out]
  have HF := Lib.hid hf
  have g1 : ((acc.length : Int) == 12) = true := by simp [c4]
  clear hf HC c4
  go_wp2_with (first
   | (go_at_call 151; refine (passedBy_any _ _ (by omega) (by omega)).mono ?_; rintro e w' ⟨rfl, rfl⟩; rw [hc2])
   | (go_at_call 152; refine (digit_any _ _ (by omega) (by omega) c1).mono ?_; rintro e w' ⟨rfl, rfl⟩; rw [HE.out.1, HE.out.2]))
  go_ret2
  exact ⟨ret_eq HF.out.symm, hbl2⟩
 rw [if_neg (by simp [c3, c4])] at HC
 have g1 : ((acc.length : Int) == 12) = false := by rw [beq_eq_false_iff_ne]; omega
 have hlt : acc.length < 12 := by omega
 clear c3 c4
 go_wp2_with (first
  | (go_at_call 151; refine (passedBy_any _ _ (by omega) (by omega)).mono ?_; rintro e w' ⟨rfl, rfl⟩; rw [hc2])
  | (go_at_call 152; refine (digit_any _ _ (by omega) (by omega) c1).mono ?_; rintro e w' ⟨rfl, rfl⟩; rw [HE.out.1, HE.out.2])
  | (at_builtin; refine wpList_append_own _ rfl _ _ 23 rfl w.heap.size 5 i0 (.int .u8 0) 1 1 Try.underlying23 hi hz0 hz1 hz2 rfl (by decide) _ _ _ rfl (hown2.alloc _) ⟨wn.heap.size, 0, none⟩ 1 1 [.int .u8 (48 + dg r)] rfl rfl ?c1 ?c2 ?c3 ?c4 ?c5 ?_))
 case c1 =>
  intro j u hj
  match j, hj with
  | 0, hj => simp at hj; subst hj; simp [Addr.add]
 case c2 => intro u hu; simp at hu; subst hu; rfl
 case c3 => unfold maxLen; omega
 case c4 => omega
 case c5 => have := hbl2.size; simp; omega
 ·intro v' w3 hown3 hgrow3 _
  have hl3 : (Lib.byteCells acc ++ [Value.int IntKind.u8 (48 + dg r)]) = Lib.byteCells (acc ++ [dgb r]) := by
   rw [Lib.byteCells_append]; simp [Lib.byteCells, HV.out]
  rw [hl3] at hown3
  have hit3 : w3.heap[K]? = some (.stringIter s (pos + wd)) := iter_grown (World.cell_new_iter wn _ hit2) hgrow3 (own_ne_iter hown2 hit2)
  have hbl3 : Below w.heap.size w w3 := (hbl2.alloc (by have := hbl2.size; exact this) _).grown hgrow3 (by have := hbl2.size; simp; omega) (by
   intro k hk; exact (hown2.lt k hk).1)
  clear hown2 hgrow3 hl3
  go_wp2
  go_roundw
  case rel => exact ⟨pos + wd, b', acc ++ [dgb r], hit3, by simpa using hown3, HC.out, by omega, by simp; omega, hbl3⟩
  case measure => rw [hips, iterPos_of hit3]; omega
end Go.Proofs.Ytopamplmpfndlaa.Sm
