/- MSmI -/
import Derived.Test.YtopamplmpfndlaaEag
import Derived.OwnWalk
import Derived.Laws.AppendOwnNone
import Derived.Maps.AppendAt
set_option maxRecDepth 100000
set_option maxHeartbeats 16000000
namespace Go.Proofs.Ytopamplmpfndlaa.Sm
open Go.RowKit
theorem sm_u8 : (Try.prog.info? 5).map (fun i => (i.zero, i.size, i.bytes)) = some (some (.int .u8 0), 1, 1) := by kernel_rfl
theorem sm_append {ops : Array Oper} {rest : List Oper} {o : Oper} {a : Act} {w : World} {Q : Exit → Act → World → Prop} (hgd : o.guard = none) (s x : Operand)
  (ho : o.op = .call { callee := .builtin .append, args := #[s, x], argTypes := #[23, 23] })
  (base : Nat) (v : Value) (n : Nat) (xs : List Value) (hs : a.eval s = v) (hown : w.ownsRow base 5 1 v n xs)
  (Ad : Option Addr) (m c : Nat) (news : List UInt8) (hx : a.eval x = .slice Ad m c) (hnil : Ad = none → c = 0) (hl : news.length = m)
  (hnews : 0 < m → ∃ ad, Ad = some ad ∧ ∀ j u, (Lib.byteCells news)[j]? = some u → w.cell? (ad.add j) = some u)
  (hbytes : n + m ≤ 140737488355328) (hbase : base ≤ w.heap.size)
  (h : ∀ v' w', w'.ownsRow base 5 1 v' (n + m) (xs ++ Lib.byteCells news) → w.grownBy w' v.ownBlock → wpList Try.prog ops Q rest (a.put o.dst v') w') : wpList Try.prog ops Q (o :: rest) a w := by
 obtain ⟨i0, hi0, hz0, hz1, hz2⟩ := info_parts sm_u8
 cases Ad with
 | none =>
  obtain rfl : c = 0 := hnil rfl
  have hm : m = 0 := by
   rcases Nat.eq_zero_or_pos m with h0 | h0
   ·exact h0
   ·obtain ⟨ad, h1, _⟩ := hnews h0; cases h1
  subst hm
  obtain rfl : news = [] := List.eq_nil_of_length_eq_zero hl
  refine wpList_append_own_none hgd s x _ ho base 5 i0 1 Try.underlying23 hi0 v n xs hs hown hx ?_
  exact h v w (by simpa [Lib.byteCells] using hown) (World.grownBy.refl w _)
 | some ad =>
  refine wpList_append_own _ hgd s x _ ho base 5 i0 _ 1 1 Try.underlying23 hi0 hz0 hz1 hz2 rfl (by omega) v n xs hs hown ad m c (Lib.byteCells news) hx (by simp [Lib.byteCells, hl]) ?_ ?_ (by unfold maxLen; omega) (by omega) hbase (fun v' w' h1 h2 _ => h v' w' h1 h2)
  ·intro j u hu
   have hj : 0 < m := by
    have := (List.getElem?_eq_some_iff.1 hu).1
    simp [Lib.byteCells, hl] at this; omega
   obtain ⟨ad', e, hc⟩ := hnews hj
   cases e
   exact hc j u hu
  ·intro u hu
   unfold Lib.byteCells at hu
   simp at hu
   obtain ⟨b, _, rfl⟩ := hu
   rfl
theorem sm_own0 {w : World} {base : Nat} (hb : base ≤ w.heap.size) : (w.alloc (.cells #[] 5)).ownsRow base 5 1 (.slice (some ⟨w.heap.size, 0, none⟩) 0 0) 0 [] :=
 World.ownsRow_lit w #[] 0 hb (by unfold maxLen; omega) rfl
theorem byteCells_app (a b : List UInt8) : Lib.byteCells (a ++ b) = Lib.byteCells a ++ Lib.byteCells b := by simp [Lib.byteCells]
theorem own_form {w : World} {base : Nat} {e : TypeId} {v : Value} {n : Nat} {xs : List Value} (h : w.ownsRow base e 1 v n xs) (hn : 0 < n) : ∃ g cap, v = .slice (some ⟨g, 0, none⟩) n cap ∧ base ≤ g ∧ g < w.heap.size ∧ n ≤ cap := by
 obtain ⟨_, h | ⟨g, cap, cur, rfl, hb, hh, hc, _⟩⟩ := h
 ·omega
 refine ⟨g, cap, rfl, hb, ?_, hc⟩
 rcases Nat.lt_or_ge g w.heap.size with hlt | hge
 ·exact hlt
 rw [Array.getElem?_eq_none hge] at hh; cases hh
theorem own_snoc {w : World} {base : Nat} {v : Value} {m n k : Nat} {l : List UInt8} {b : UInt8} (h : w.ownsRow base 5 1 v (m + 1) (Lib.byteCells (l ++ [128] ++ List.replicate k b) ++ Lib.byteCells [b])) (_ : m = n + 1 + k) :
  w.ownsRow base 5 1 v (m + 1) (Lib.byteCells (l ++ [128] ++ List.replicate (k + 1) b)) := by
 rw [← byteCells_app, List.append_assoc, ← List.replicate_succ'] at h
 exact h
theorem own_far {w : World} {base : Nat} {e : TypeId} {v : Value} {n : Nat} {xs : List Value} (h : w.ownsRow base e 1 v n xs) {g : Nat} (hg : g < base) : some g ≠ v.ownBlock := by
 intro he
 have := (h.lt g he.symm).1
 omega
def lowB (n j : Nat) : List UInt8 := (List.range j).map fun i => by8 ((n / 256 ^ i : Nat) : Int)
theorem lowB_succ (n j : Nat) : lowB n (j + 1) = lowB n j ++ [by8 ((n / 256 ^ j : Nat) : Int)] := by unfold lowB; rw [List.range_succ]; simp
theorem by8_cells (x : Int) : Lib.byteCells [by8 x] = [.int .u8 (x % 256)] := by simp [Lib.byteCells, by8_int]
theorem padL_at (l : List UInt8) (n m : Nat) (hn : n = l.length) (hm : m = n + 1 + (7 - n % 8)) (i : Nat) (hi : i < m + 8) : (l ++ [128] ++ List.replicate (7 - n % 8) 0 ++ lowB n 8)[i]? = some (padF l i) := by
 have hl1 : (l ++ [128]).length = n + 1 := by simp [hn]
 have hl2 : (l ++ [128] ++ List.replicate (7 - n % 8) (0 : UInt8)).length = m := by simp [hn, hm]; omega
 have hl3 : (lowB n 8).length = 8 := by simp [lowB]
 have em : m = 8 * (n / 8 + 1) := by omega
 by_cases h2 : i < m
 ·rw [List.getElem?_append_left (by omega)]
  by_cases h1 : i < n + 1
  ·rw [List.getElem?_append_left (by omega)]
   by_cases h0 : i < n
   ·rw [List.getElem?_append_left (by omega), padF_in l (by omega)]
    rw [List.getElem?_eq_getElem (by omega)]
    simp [List.getD, show i < l.length by omega]
   obtain rfl : i = n := by omega
   rw [List.getElem?_append_right (by omega), padF_mark l i hn, hn]
   simp
  rw [List.getElem?_append_right (by omega), hl1, padF_zero l i (by omega) (by rw [← hn]; omega)]
  rw [List.getElem?_replicate, if_pos (by omega)]
 rw [List.getElem?_append_right (by omega), hl2]
 have e : i = 8 * (n / 8 + 1) + (i - m) := by omega
 have hp := padF_low l (n / 8) (n % 8) (by omega) (by omega) (i - m)
 rw [← e] at hp
 rw [hp]
 unfold lowB
 rw [List.getElem?_map, List.getElem?_range (by omega), ← hn]
 simp
theorem Bk.far {w : World} {g : Nat} {t : TypeId} {cs : Array Value} (h : Bk w g t cs) {b : Nat} (hb : g ≠ b) (i : Nat) (v : Value) : Bk (w.setCell ⟨b, i, none⟩ v) g t cs := (Below.heap_setCell _ _ _ _ hb).trans h
theorem Bk.range {w : World} {g : Nat} {t : TypeId} {ds : List Value} (h : Bk w g t ds.toArray) : w.rangeAt g 0 ds := by
 intro j v hv
 rw [h.cell]
 simpa using hv
theorem sm_at_load {P : Program} {ops : Array Oper} {rest : List Oper} {d : Option Tmp} {ty t2 : TypeId} {x : Operand} {pos : String} {af : Array Edge} {g : Option (Nat × Bool)} {a : Act} {w : World} {Q : Exit → Act → World → Prop}
  (hw : Region.wanted { dst := d, op := .load ty x, type := t2, pos := pos, after := af, guard := g } (yielded ops a.tmps) = true)
  (k : ∀ K : Act → World → Prop, (∀ a w, wpList P ops Q rest a w → K a w) → Oper.wp P { dst := d, op := .load ty x, type := t2, pos := pos, after := af, guard := g } a w K Q) : wpList P ops Q ({ dst := d, op := .load ty x, type := t2, pos := pos, after := af, guard := g } :: rest) a w :=
 wpList_step fun K hK => by rw [if_pos hw]; exact k K hK
theorem rd_cell {l : List UInt8} {n A o : Nat} {w w' : World} (hl : ∀ i, i < n → w.cell? ⟨A, o + i, none⟩ = some (.int .u8 (l.getD i 0).toNat)) (hn : n = l.length) {B : Nat} (hA : A < w.heap.size) (hB : A < B) (hb : Below B w w') :
  ∀ i v, (Lib.byteCells l)[i]? = some v → w'.cell? ⟨A, o + i, none⟩ = some v := by
 intro i v hv
 have hi : i < l.length := by have := (List.getElem?_eq_some_iff.1 hv).1; simpa [Lib.byteCells] using this
 rw [hb.cell (p := ⟨A, _, none⟩) hB, hl i (by omega), ← hv]
 simp [Lib.byteCells, hi]
theorem rsum_core0 (l : List UInt8) (Ad : Option Addr) (A o c : Nat) (hc : l.length ≤ c) (hnil : Ad = none → c = 0) (hm : l.length < 140737488351233) (w : World) (hAd : 0 < l.length → Ad = some ⟨A, o, none⟩) (hA : 0 < l.length → A < w.heap.size)
  (hl : ∀ i, i < l.length → w.cell? ⟨A, o + i, none⟩ = some (.int .u8 (l.getD i 0).toNat)) :
  Calls Try.prog 70 #[.slice Ad l.length c] w fun e w' => e = .returned (digV (sumL l)) ∧ Below w.heap.size w w' := by
 obtain ⟨n, hn⟩ : ∃ n, n = l.length := ⟨_, rfl⟩
 rw [← hn] at hc hm hAd hl hA ⊢
 have HA := Lib.hid hA
 clear hA
 have HL := Lib.hid hl
 have HN := Lib.hid hn
 have HAd := Lib.hid hAd
 have HNil := Lib.hid hnil
 have hb0 := Lib.hid (show ∀ X Y Z, Below w.heap.size w (((w.alloc X).alloc Y).alloc Z) from fun X Y Z => (((Below.refl _ _).alloc (Nat.le_refl _) _).alloc (by simp) _).alloc (by simp; omega) _)
 have own0 := Lib.hid (show ∀ X Y, (((w.alloc X).alloc Y).alloc (.cells #[] 5)).ownsRow (w.heap.size + 2) 5 1 (.slice (some ⟨w.heap.size + 1 + 1, 0, none⟩) 0 0) 0 [] from fun X Y => by
  have h := sm_own0 (w := (w.alloc X).alloc Y) (base := w.heap.size + 2) (by simp)
  simpa using h)
 clear hl hn hAd hnil
 go_enter Try.func70, Try.ntmps70
 go_wp2_with (first
  | (at_builtin; refine sm_append rfl (.tmp 12) (.tmp 13) rfl (w.heap.size + 2) _ 0 [] rfl ?_ Ad n c l rfl HNil.out HN.out.symm ?_ ?_ ?_ ?_; (focus (exact own0.out _ _)); (focus (intro h; refine ⟨_, HAd.out h, ?_⟩; intro i v hv; rw [Addr.add_mid]; exact rd_cell HL.out HN.out (HA.out h) (HA.out h) (hb0.out _ _ _) i v hv)); (focus omega); (focus simp); intro v1 w1 hown1 hg1; have HO1 := Lib.hid hown1; have HG1 := Lib.hid hg1; clear hown1 hg1)
  | (at_builtin; refine sm_append rfl (.tmp 14) (.tmp 15) rfl (w.heap.size + 2) v1 (0 + n) ([] ++ Lib.byteCells l) rfl (HO1.out.alloc _) (some ⟨w1.heap.size, 0, none⟩) 1 1 [128] rfl ?_ rfl ?_ ?_ ?_ ?_; (focus (intro h; cases h)); (focus (intro h; exact ⟨_, rfl, cell_one_new _ _ _⟩)); (focus omega); (focus (have := HG1.out.size; simp at this ⊢; omega)); intro v2 w2 hown2 hg2; have HO2 := Lib.hid hown2; have HG2 := Lib.hid hg2; clear hown2 hg2))
 have b2 : Hid (Below (w.heap.size + 2) ((w.alloc (.cells zero16 36)).alloc (.cells iv.cells 64)) w2) :=
  Lib.hid (((((Below.refl (w.heap.size + 2) ((w.alloc (.cells zero16 36)).alloc (.cells iv.cells 64))).alloc (by simp) (.cells #[] 5)).grown HG1.out (by simp) (fun k hk => by
   have : w.heap.size + 1 + 1 = k := by simpa [Value.ownBlock, Act.eval] using hk
   omega)).alloc (by have := HG1.out.size; simp at this ⊢; omega) (.cells #[.int .u8 128] 5)).grown HG2.out (by have := HG1.out.size; simp at this ⊢; omega) (fun k hk => (HO1.out.lt k hk).1))
 have own2 : Hid (w2.ownsRow (w.heap.size + 2) 5 1 v2 (n + 1) (Lib.byteCells (l ++ [128]))) := by
  have h := HO2.out
  rw [Nat.zero_add, List.nil_append, ← byteCells_app] at h
  exact Lib.hid h
 have D2 : Hid (Bk w2 w.heap.size 36 zero16) := Lib.hid (((Bk.new rfl _ _).more _).under b2.out (by omega))
 have B2 : Hid (Bk w2 (w.heap.size + 1) 64 iv.cells) := Lib.hid ((Bk.new (by simp) _ _).under b2.out (by omega))
 have bw2 : Below w.heap.size w w2 := (((Below.refl _ _).alloc (Nat.le_refl _) _).alloc (by simp) _).trans (b2.out.mono (by omega))
 clear HO1 HG1 HO2 HG2 hb0 own0 b2 HL HAd HNil
 go_loopw [4] (fun v wr => ∃ k : Nat, k ≤ 7 - n % 8 ∧ Hid (wr.ownsRow (w.heap.size + 2) 5 1 v (n + 1 + k) (Lib.byteCells (l ++ [128] ++ List.replicate k 0))) ∧ Hid (Bk wr w.heap.size 36 zero16) ∧ Hid (Bk wr (w.heap.size + 1) 64 iv.cells) ∧ Below w.heap.size w wr) (fun v _ => n + 8 - lenS v)
 case atStart => exact ⟨0, Nat.zero_le _, by simpa using own2, D2, B2, bw2⟩
 obtain ⟨k, hk, own, D, Bx, bw⟩ := hrel
 clear own2 D2 B2 bw2
 obtain ⟨g, cap, rfl, hg1, hg2, hcap⟩ := own_form own.out (by omega)
 obtain ⟨m, hm'⟩ : ∃ m, m = n + 1 + k := ⟨_, rfl⟩
 rw [← hm'] at own hcap ⊢
 have HM := Lib.hid hm'
 by_cases hq : k < 7 - n % 8
 ·have t0 : ((m : Int) % 8 != 0) = true := by simp; omega
  have t1 : ((m : Int) % 8 == 0) = false := by simp; omega
  have hmb : m ≤ 140737488351300 := by omega
  clear hm'
  go_wp2_with (at_builtin; refine sm_append rfl (.tmp 21) (.tmp 22) rfl (w.heap.size + 2) _ m _ rfl (own.out.alloc _) (some ⟨wr.heap.size, 0, none⟩) 1 1 [0] rfl ?_ rfl ?_ ?_ ?_ ?_; (focus (intro h; cases h)); (focus (intro h; exact ⟨_, rfl, cell_one_new _ _ _⟩)); (focus omega); (focus (simp; omega)); intro v3 w3 hown3 hg3; have HO3 := Lib.hid hown3; have HG3 := Lib.hid hg3; clear hown3 hg3)
  have e1 := own_snoc HO3.out HM.out
  have D3 : Bk w3 w.heap.size 36 zero16 := (D.out.more _).only HG3.out (own_far own.out (by omega))
  have B3 : Bk w3 (w.heap.size + 1) 64 iv.cells := (Bx.out.more _).only HG3.out (own_far own.out (by omega))
  have bw3 : Below w.heap.size w w3 := (bw.alloc (by omega) _).grown HG3.out (by simp; omega) (fun x hx => by have := (own.out.lt x hx).1; omega)
  have E1 := Lib.hid e1
  have D3 := Lib.hid D3
  have B3 := Lib.hid B3
  clear e1 HO3 HG3 own D Bx
  go_roundw
  case rel => exact ⟨k + 1, by omega, by rw [show n + 1 + (k + 1) = m + 1 by rw [HM.out]; omega]; exact E1, D3, B3, bw3⟩
  obtain ⟨g3, cap3, e3, _⟩ := own_form E1.out (by omega)
  rw [e3]; simp [lenS]; have := HM.out; omega
 have t0 : ((m : Int) % 8 != 0) = false := by simp; omega
 have t1 : ((m : Int) % 8 == 0) = true := by simp; omega
 obtain rfl : k = 7 - n % 8 := by omega
 have hmb : m ≤ 140737488351300 := by omega
 have hm8 : m % 8 = 0 := by omega
 have hm1 : 1 ≤ m := by omega
 clear hm' hq hk
 go_wp2_with fail
 go_loopw [4, 5, 6] (fun v x i wx => ∃ j : Nat, j ≤ 8 ∧ i = .int .i64 j ∧ x = .int .u64 ((n / 256 ^ j : Nat) : Int) ∧ Hid (wx.ownsRow (w.heap.size + 2) 5 1 v (m + j) (Lib.byteCells (l ++ [128] ++ List.replicate (7 - n % 8) 0 ++ lowB n j))) ∧ Hid (Bk wx w.heap.size 36 zero16) ∧ Hid (Bk wx (w.heap.size + 1) 64 iv.cells) ∧ Below w.heap.size w wx) (fun _ _ i _ => 8 - (intOf i).toNat)
 case atStart => exact ⟨0, Nat.zero_le _, rfl, by rw [Nat.pow_zero, Nat.div_one], by simpa [lowB] using own, D, Bx, bw⟩
 clear own D Bx bw
 obtain ⟨j, hj, rfl, rfl, own, D, Bx, bw⟩ := hrel
 obtain ⟨g1, cap1, rfl, hg3, hg4, hcap1⟩ := own_form own.out (by omega)
 by_cases hlt : j < 8
 ·obtain ⟨x, hx⟩ : ∃ x, x = n / 256 ^ j := ⟨_, rfl⟩
  have hxn : x ≤ n := by rw [hx]; exact Nat.div_le_self _ _
  have hx8 := by8_cells (x : Int)
  have hxs : x / 256 = n / 256 ^ (j + 1) := by rw [hx, Nat.pow_succ, Nat.div_div_eq_div_mul]
  have hls := lowB_succ n j
  rw [← hx] at hls ⊢
  have HX := Lib.hid hx8
  have HXS := Lib.hid hxs
  have HLS := Lib.hid hls
  clear hx hx8 hxs hls
  go_wp2_with (at_builtin; refine sm_append rfl (.tmp 31) (.tmp 34) rfl (w.heap.size + 2) _ (m + j) _ rfl (own.out.alloc _) (some ⟨wr.heap.size, 0, none⟩) 1 1 [by8 (x : Int)] rfl ?_ rfl ?_ ?_ ?_ ?_; (focus (intro h; cases h)); (focus (intro h; refine ⟨_, rfl, ?_⟩; rw [HX.out]; exact cell_one_new _ _ _)); (focus omega); (focus (simp; omega)); intro v3 w3 hown3 hg3; have HO3 := Lib.hid hown3; have HG3 := Lib.hid hg3; clear hown3 hg3)
  have E1 : Hid (w3.ownsRow (w.heap.size + 2) 5 1 v3 (m + (j + 1)) (Lib.byteCells (l ++ [128] ++ List.replicate (7 - n % 8) 0 ++ lowB n (j + 1)))) := by
   have h := HO3.out
   rw [← byteCells_app, List.append_assoc, ← HLS.out] at h
   exact Lib.hid h
  have D3 : Hid (Bk w3 w.heap.size 36 zero16) := Lib.hid ((D.out.more _).only HG3.out (own_far own.out (by omega)))
  have B3 : Hid (Bk w3 (w.heap.size + 1) 64 iv.cells) := Lib.hid ((Bx.out.more _).only HG3.out (own_far own.out (by omega)))
  have bw3 : Below w.heap.size w w3 := (bw.alloc (by omega) _).grown HG3.out (by simp; omega) (fun x hx => by have := (own.out.lt x hx).1; omega)
  clear HO3 HG3 own D Bx
  go_roundw
  case rel => exact ⟨j + 1, by omega, by go_num, by rw [← HXS.out]; go_num, E1, D3, B3, bw3⟩
  case measure => simp [intOf]; omega
 obtain rfl : j = 8 := by omega
 have hP := Lib.hid (padL_at l n m HN.out HM.out)
 obtain ⟨P, hPe⟩ : ∃ P, P = l ++ [128] ++ List.replicate (7 - n % 8) 0 ++ lowB n 8 := ⟨_, rfl⟩
 rw [← hPe] at own hP
 obtain ⟨M, hM⟩ : ∃ M, M = m + 8 := ⟨_, rfl⟩
 have hMn : Hid (M / 8 = n / 8 + 2) := Lib.hid (by have := HM.out; omega)
 clear hPe HM
 have hM8 : M % 8 = 0 := by omega
 have hMb : M ≤ 140737488351308 := by omega
 rw [← hM] at own hcap1 hP ⊢
 clear hM hm8 hmb hcap hm1 t0 t1
 have cb : Hid (∀ i, i < M → wr.cell? ⟨g1, i, none⟩ = some (.int .u8 (padF l i).toNat)) := Lib.hid (by
  intro i hi
  rw [own.out.cellAt i (by omega)]
  have h := hP.out i hi
  simp [Lib.byteCells, h])
 have hz1 := bw.size
 go_wp2_with fail
 generalize Value.int IntKind.u64 ((n / 256 ^ 8 : Nat) : Int) = z5
 rw [show ((8 : Nat) : Int) = (8 : Int) from rfl]
 go_loopw [7] (fun i wx => ∃ j : Nat, 8 * j ≤ M ∧ i = .int .i64 (8 * j : Nat) ∧ Hid (∀ i, i < M → wx.cell? ⟨g1, i, none⟩ = some (.int .u8 (padF l i).toNat)) ∧ Hid (Bk wx w.heap.size 36 zero16) ∧ Hid (Bk wx (w.heap.size + 1) 64 (absb (padF l) j).cells) ∧ Below w.heap.size w wx ∧ g1 < wx.heap.size) (fun i _ => M - (intOf i).toNat)
 case atStart => exact ⟨0, by omega, rfl, cb, D, Bx, bw, hg4⟩
 clear cb D Bx bw own hg4
 obtain ⟨j, hj, rfl, cb, D, Bx, bw, hg4⟩ := hrel
 obtain ⟨x, hx⟩ : ∃ x, x = 8 * j := ⟨_, rfl⟩
 rw [← hx] at hj ⊢
 have HX := Lib.hid hx
 by_cases hlt : x < M
 ·have hx8 : x + 8 ≤ M := by omega
  clear hx
  have okr := absb_ok (padF l) j
  obtain ⟨r, hr⟩ : ∃ r, r = absb (padF l) j := ⟨_, rfl⟩
  rw [← hr] at okr Bx
  have HR := Lib.hid hr
  clear hr
  have k0 : wr.cell? ⟨w.heap.size + 1, 0, none⟩ = some (.int .u32 r.a) := Bx.out.cell 0
  have f0 : wr.frozen? ⟨w.heap.size + 1, 0, none⟩ = false := Bx.out.fr 0
  have R0 := Lib.hid (fun (W : World) h0 h1 h2 h3 => rword_any g1 x 4 (cap1 - x) (by omega) (padF l x) (padF l (x + 1)) (padF l (x + 2)) (padF l (x + 3)) W h0 h1 h2 h3)
  have s1 : IntKind.i64.wrap ((x : Int) + 4) = (x : Int) + 4 := IntWalk.i64_in _ (by omega)
  have q0 : (0 : Int) ≤ (x : Int) := by omega
  have q1 : (x : Int) ≤ (x : Int) + 4 := by omega
  have q2 : (x : Int) + 4 ≤ (cap1 : Int) := by omega
  have q3 : ¬ cap1 = x := by omega
  have q4 : (0 : Int) ≤ (x : Int) + 4 := by omega
  have q5 : ((x : Int) + 4).toNat = x + 4 := by omega
  go_wp2_with fail
  go_still_tail 11, (by kernel_rfl)
  refine wpStill_step (fun K hK => ?_)
  go_simp
  refine ⟨_, flip_calls (R0.out _ (cb.out x (by omega)) (cb.out (x + 1) (by omega)) (cb.out (x + 2) (by omega)) (cb.out (x + 3) (by omega))), hK _ ?_⟩
  clear hK K
  still_step
  refine wpStill_nil ?_
  change wpList _ _ _ _ _ wr.drew
  go_wp2_with fail
  generalize hw : (wr.setCell ⟨w.heap.size + 1, 0, none⟩ (.int .u32 (bits BinOp.xor IntKind.u32 r.a (word4 (padF l x) (padF l (x + 1)) (padF l (x + 2)) (padF l (x + 3)))))).drew = w3
  have cb3 : Hid (∀ i, i < M → w3.cell? ⟨g1, i, none⟩ = some (.int .u8 (padF l i).toNat)) := Lib.hid (by
   intro i hi
   rw [← hw]
   exact (World.cell?_setCell_other wr ⟨w.heap.size + 1, 0, none⟩ ⟨g1, i, none⟩ _ (by intro e; injection e with e1; omega)).trans (cb.out i hi))
  have B3 : Hid (Bk w3 (w.heap.size + 1) 64 #[.int .u32 (xorW r.a (word4 (padF l x) (padF l (x + 1)) (padF l (x + 2)) (padF l (x + 3)))), .int .u32 r.b, .int .u32 r.c, .int .u32 r.d]) := by rw [← hw]; exact Lib.hid ((Bx.out.put 0 _).draw)
  have D3 : Hid (Bk w3 w.heap.size 36 zero16) := by rw [← hw]; exact Lib.hid ((Below.heap_setCell _ _ _ _ (by simp)).trans D.out)
  have bw3 : Below w.heap.size w w3 := by rw [← hw]; exact (bw.setCell (p := ⟨w.heap.size + 1, 0, none⟩) (by simp) _).drew
  have hg3 : g1 < w3.heap.size := by rw [← hw]; simpa [World.setCell, World.drew] using hg4
  clear hw k0 f0 R0 Bx D bw cb hg4
  have k3 : w3.cell? ⟨w.heap.size + 1, 3, none⟩ = some (.int .u32 r.d) := B3.out.cell 3
  have f3 : w3.frozen? ⟨w.heap.size + 1, 3, none⟩ = false := B3.out.fr 3
  have R1 := Lib.hid (fun (W : World) h0 h1 h2 h3 => rword_any g1 (x + 4) 4 (cap1 - (x + 4)) (by omega) (padF l (x + 4)) (padF l (x + 5)) (padF l (x + 6)) (padF l (x + 7)) W h0 h1 h2 h3)
  have s2 : IntKind.i64.wrap ((x : Int) + 8) = (x : Int) + 8 := IntWalk.i64_in _ (by omega)
  have q6 : (x : Int) + 4 ≤ (x : Int) + 8 := by omega
  have q7 : (x : Int) + 8 ≤ (cap1 : Int) := by omega
  have q8 : ¬ cap1 = x + 4 := by omega
  have q9 : (0 : Int) ≤ (x : Int) + 8 := by omega
  have q10 : ((x : Int) + 8).toNat = x + 8 := by omega
  go_still_tail 12, (by kernel_rfl)
  refine wpStill_step (fun K hK => ?_)
  go_simp
  refine ⟨_, flip_calls (R1.out _ (cb3.out (x + 4) (by omega)) (cb3.out (x + 5) (by omega)) (cb3.out (x + 6) (by omega)) (cb3.out (x + 7) (by omega))), hK _ ?_⟩
  clear hK K
  still_step
  refine wpStill_nil ?_
  change wpList _ _ _ _ _ w3.drew
  go_wp2_with fail
  obtain ⟨s0, hs0⟩ : ∃ s : Wd, s = ⟨xorW r.a (word4 (padF l x) (padF l (x + 1)) (padF l (x + 2)) (padF l (x + 3))), r.b, r.c, xorW r.d (word4 (padF l (x + 4)) (padF l (x + 5)) (padF l (x + 6)) (padF l (x + 7)))⟩ := ⟨_, rfl⟩
  have ok0 : s0.Ok := by rw [hs0]; exact ⟨xorW_w okr.a (word4_w _ _ _ _), okr.b, okr.c, xorW_w okr.d (word4_w _ _ _ _)⟩
  have hs3 : stirN 3 s0 = absb (padF l) (j + 1) := by
   rw [hs0, HR.out, HX.out]; rfl
  generalize hw : (w3.setCell ⟨w.heap.size + 1, 3, none⟩ (.int .u32 (bits BinOp.xor IntKind.u32 r.d (word4 (padF l (x + 4)) (padF l (x + 5)) (padF l (x + 6)) (padF l (x + 7)))))).drew = w4
  have B4 : Bk w4 (w.heap.size + 1) 64 s0.cells := by rw [← hw, hs0]; exact ((B3.out.put 3 _).draw)
  have O4 : w3.grownBy w4 (some (w.heap.size + 1)) := by rw [← hw]; exact only_draw (only_put (only_none _ _) 3 _)
  have S1 := Lib.hid (rstir_any s0 ok0 (w.heap.size + 1) w4 B4)
  have O4 := Lib.hid O4
  have HS3 := Lib.hid hs3
  clear hw hs0 hs3 B4 B3 k3 f3 R1
  refine S1.out.mono ?_
  rintro e w5 ⟨rfl, B5, o5⟩
  have S2 := Lib.hid (rstir_any _ (stir1_ok ok0) (w.heap.size + 1) w5 B5)
  have O5 := Lib.hid (only_trans O4.out o5)
  clear B5 o5 O4 S1
  go_wp2_with fail
  refine S2.out.mono ?_
  rintro e w6 ⟨rfl, B6, o6⟩
  have S3 := Lib.hid (rstir_any _ (stir1_ok (stir1_ok ok0)) (w.heap.size + 1) w6 B6)
  have O6 := Lib.hid (only_trans O5.out o6)
  clear B6 o6 O5 S2
  go_wp2_with fail
  refine S3.out.mono ?_
  rintro e w7 ⟨rfl, B7, o7⟩
  have O7 := Lib.hid (only_trans O6.out o7)
  have B7 : Hid (Bk w7 (w.heap.size + 1) 64 (absb (padF l) (j + 1)).cells) := by rw [← HS3.out]; exact Lib.hid B7
  clear o7 O6 S3
  have cb7 : Hid (∀ i, i < M → w7.cell? ⟨g1, i, none⟩ = some (.int .u8 (padF l i).toNat)) := Lib.hid (fun i hi => O7.out.cell (a := ⟨g1, i, none⟩) (cb3.out i hi) (by simp; omega))
  have D7 : Hid (Bk w7 w.heap.size 36 zero16) := Lib.hid (D3.out.only O7.out (by simp))
  have hz3 := bw3.size
  have bw7 : Below w.heap.size w w7 := below_only bw3 O7.out (by omega) hz3
  have hg7 : g1 < w7.heap.size := Nat.lt_of_lt_of_le hg3 O7.out.size
  clear s1 s2 q0 q1 q2 q3 q4 q5 q6 q7 q8 q9 q10 cb3 D3
  have q11 : (x : Int) + 8 = ((x + 8 : Nat) : Int) := by omega
  have Q11 := Lib.hid q11
  clear q11
  go_wp2_with fail
  go_roundw
  case rel => exact ⟨j + 1, by have := HX.out; omega, by rw [Q11.out, HX.out, Nat.mul_add], cb7, D7, B7, bw7, hg7⟩
  case measure => simp [intOf]; omega
 have hjq : j = n / 8 + 2 := by have := hMn.out; omega
 have B0 : Hid (Bk wr (w.heap.size + 1) 64 (absb (padF l) (n / 8 + 2)).cells) := by rw [← hjq]; exact Bx
 clear hjq Bx cb hx
 go_wp2_with fail
 go_loopw [8] (fun i wx => ∃ k : Nat, k ≤ 8 ∧ i = .int .i64 k ∧ Hid (Bk wx w.heap.size 36 zero16) ∧ Hid (Bk wx (w.heap.size + 1) 64 (stirN k (absb (padF l) (n / 8 + 2))).cells) ∧ Below w.heap.size w wx) (fun i _ => 8 - (intOf i).toNat)
 case atStart => exact ⟨0, by omega, rfl, D, B0, bw⟩
 clear D B0 bw hg4
 obtain ⟨k, hk, rfl, D, Bx, bw⟩ := hrel
 have hz2 := bw.size
 by_cases hlt : k < 8
 ·have S1 := Lib.hid (rstir_any _ (stirN_ok (absb_ok (padF l) (n / 8 + 2)) k) (w.heap.size + 1) wr Bx.out)
  go_wp2_with fail
  refine S1.out.mono ?_
  rintro e w5 ⟨rfl, B5, o5⟩
  have B5 := Lib.hid B5
  have D5 := Lib.hid (D.out.only o5 (by simp))
  have bw5 : Below w.heap.size w w5 := below_only bw o5 (by omega) hz2
  clear o5 S1 D Bx
  go_wp2_with fail
  go_roundw
  case rel => exact ⟨k + 1, by omega, by go_num, D5, B5, bw5⟩
  case measure => simp [intOf]; omega
 obtain rfl : k = 8 := by omega
 have okS : (sumS l).Ok := sumS_ok l
 have eS : stirN 8 (absb (padF l) (n / 8 + 2)) = sumS l := by rw [HN.out]; rfl
 rw [eS] at Bx
 clear eS
 have hbl := Bx.out.lt
 have k0 : wr.cell? ⟨w.heap.size + 1, 0, none⟩ = some (.int .u32 (sumS l).a) := Bx.out.cell 0
 have k1 : wr.cell? ⟨w.heap.size + 1, 1, none⟩ = some (.int .u32 (sumS l).b) := Bx.out.cell 1
 have k2 : wr.cell? ⟨w.heap.size + 1, 2, none⟩ = some (.int .u32 (sumS l).c) := Bx.out.cell 2
 have k3 : wr.cell? ⟨w.heap.size + 1, 3, none⟩ = some (.int .u32 (sumS l).d) := Bx.out.cell 3
 have f0 : wr.frozen? ⟨w.heap.size + 1, 0, none⟩ = false := Bx.out.fr 0
 have f1 : wr.frozen? ⟨w.heap.size + 1, 1, none⟩ = false := Bx.out.fr 1
 have f2 : wr.frozen? ⟨w.heap.size + 1, 2, none⟩ = false := Bx.out.fr 2
 have f3 : wr.frozen? ⟨w.heap.size + 1, 3, none⟩ = false := Bx.out.fr 3
 obtain ⟨⟨a0, a1⟩, ⟨b0, b1⟩, ⟨c0, c1⟩, ⟨d0, d1⟩⟩ := okS
 obtain ⟨S, hS⟩ : ∃ S, S = sumS l := ⟨_, rfl⟩
 rw [← hS] at a0 a1 b0 b1 c0 c1 d0 d1 k0 k1 k2 k3 Bx
 have HS := Lib.hid hS
 clear hS
 go_wp2_with fail
 have G0 := Lib.hid (Bk.new (w := wr) rfl 36 zero16)
 have B0 := Lib.hid (Bx.out.more (.cells zero16 36))
 have D0 := Lib.hid (D.out.more (.cells zero16 36))
 have b0' := bw.alloc hz2 (.cells zero16 36)
 obtain ⟨G, hG⟩ : ∃ G, G = wr.heap.size := ⟨_, rfl⟩
 have gl : w.heap.size + 1 < G := by omega
 rw [← hG] at G0 ⊢
 change Code.wp Try.prog _ _ _ (wr.alloc (.cells zero16 36))
 generalize wr.alloc (.cells zero16 36) = x0 at G0 B0 D0 b0' ⊢
 clear hG k0 k1 k2 k3 f0 f1 f2 f3 Bx D bw hz2 hbl hk hlt hP hcap1 hMn hM8 hMb hz1 hj HX hm hc hg1 hg2 hg3
 refine wp_loop_rounds 17 ?_
 have k0 : x0.cell? ⟨w.heap.size + 1, 0, none⟩ = some (.int .u32 S.a) := B0.out.cell 0
 have f0 : x0.frozen? ⟨w.heap.size + 1, 0, none⟩ = false := B0.out.fr 0
 have k1 : x0.cell? ⟨G, 0, none⟩ = some (.int .u8 0) := G0.out.cell 0
 have f1 : x0.frozen? ⟨G, 0, none⟩ = false := G0.out.fr 0
 rw [rounds_succ]
 go_wp2_with fail
 generalize hw : ((x0.setCell ⟨G, 0, none⟩ (.int .u8 (S.a % 256))).setCell ⟨w.heap.size + 1, 0, none⟩ (.int .u32 (S.a / 256))) = x1
 have Bq : Hid (Bk x1 (w.heap.size + 1) 64 #[.int .u32 (S.a / 256), .int .u32 S.b, .int .u32 S.c, .int .u32 S.d]) := by rw [← hw]; exact Lib.hid ((B0.out.far (by omega) _ _).put 0 _)
 have Gq : Hid (Bk x1 G 36 #[.int .u8 (S.a % 256), .int .u8 0, .int .u8 0, .int .u8 0, .int .u8 0, .int .u8 0, .int .u8 0, .int .u8 0, .int .u8 0, .int .u8 0, .int .u8 0, .int .u8 0, .int .u8 0, .int .u8 0, .int .u8 0, .int .u8 0]) := by rw [← hw]; exact Lib.hid ((G0.out.put 0 _).far (by omega) _ _)
 have Dq : Hid (Bk x1 w.heap.size 36 zero16) := by rw [← hw]; exact Lib.hid ((D0.out.far (by omega) _ _).far (by omega) _ _)
 have bq : Below w.heap.size w x1 := by rw [← hw]; exact (b0'.setCell (p := ⟨G, 0, none⟩) (by simp; omega) _).setCell (p := ⟨w.heap.size + 1, 0, none⟩) (by simp) _
 clear hw k0 f0 k1 f1 B0 G0 D0
 obtain ⟨y0, hy0⟩ : ∃ y, y = S.a / 256 := ⟨_, rfl⟩
 have ly0 : 0 ≤ y0 := by omega
 have uy0 : y0 < 4294967296 := by omega
 rw [← hy0] at Bq
 have Hy0 := Lib.hid hy0
 clear hy0
 have B1 := Bq
 have G1 := Gq
 have D1 := Dq
 have b1' := bq
 clear Bq Gq Dq bq b0'
 have k0 : x1.cell? ⟨w.heap.size + 1, 0, none⟩ = some (.int .u32 y0) := B1.out.cell 0
 have f0 : x1.frozen? ⟨w.heap.size + 1, 0, none⟩ = false := B1.out.fr 0
 have k1 : x1.cell? ⟨G, 1, none⟩ = some (.int .u8 0) := G1.out.cell 1
 have f1 : x1.frozen? ⟨G, 1, none⟩ = false := G1.out.fr 1
 rw [rounds_succ]
 go_wp2_with fail
 generalize hw : ((x1.setCell ⟨G, 1, none⟩ (.int .u8 (y0 % 256))).setCell ⟨w.heap.size + 1, 0, none⟩ (.int .u32 (y0 / 256))) = x2
 have Bq : Hid (Bk x2 (w.heap.size + 1) 64 #[.int .u32 (y0 / 256), .int .u32 S.b, .int .u32 S.c, .int .u32 S.d]) := by rw [← hw]; exact Lib.hid ((B1.out.far (by omega) _ _).put 0 _)
 have Gq : Hid (Bk x2 G 36 #[.int .u8 (S.a % 256), .int .u8 (y0 % 256), .int .u8 0, .int .u8 0, .int .u8 0, .int .u8 0, .int .u8 0, .int .u8 0, .int .u8 0, .int .u8 0, .int .u8 0, .int .u8 0, .int .u8 0, .int .u8 0, .int .u8 0, .int .u8 0]) := by rw [← hw]; exact Lib.hid ((G1.out.put 1 _).far (by omega) _ _)
 have Dq : Hid (Bk x2 w.heap.size 36 zero16) := by rw [← hw]; exact Lib.hid ((D1.out.far (by omega) _ _).far (by omega) _ _)
 have bq : Below w.heap.size w x2 := by rw [← hw]; exact (b1'.setCell (p := ⟨G, 1, none⟩) (by simp; omega) _).setCell (p := ⟨w.heap.size + 1, 0, none⟩) (by simp) _
 clear hw k0 f0 k1 f1 B1 G1 D1
 obtain ⟨y1, hy1⟩ : ∃ y, y = y0 / 256 := ⟨_, rfl⟩
 have ly1 : 0 ≤ y1 := by omega
 have uy1 : y1 < 4294967296 := by omega
 rw [← hy1] at Bq
 have Hy1 := Lib.hid hy1
 clear hy1
 have B2 := Bq
 have G2 := Gq
 have D2 := Dq
 have b2' := bq
 clear Bq Gq Dq bq b1'
 have k0 : x2.cell? ⟨w.heap.size + 1, 0, none⟩ = some (.int .u32 y1) := B2.out.cell 0
 have f0 : x2.frozen? ⟨w.heap.size + 1, 0, none⟩ = false := B2.out.fr 0
 have k1 : x2.cell? ⟨G, 2, none⟩ = some (.int .u8 0) := G2.out.cell 2
 have f1 : x2.frozen? ⟨G, 2, none⟩ = false := G2.out.fr 2
 rw [rounds_succ]
 go_wp2_with fail
 generalize hw : ((x2.setCell ⟨G, 2, none⟩ (.int .u8 (y1 % 256))).setCell ⟨w.heap.size + 1, 0, none⟩ (.int .u32 (y1 / 256))) = x3
 have Bq : Hid (Bk x3 (w.heap.size + 1) 64 #[.int .u32 (y1 / 256), .int .u32 S.b, .int .u32 S.c, .int .u32 S.d]) := by rw [← hw]; exact Lib.hid ((B2.out.far (by omega) _ _).put 0 _)
 have Gq : Hid (Bk x3 G 36 #[.int .u8 (S.a % 256), .int .u8 (y0 % 256), .int .u8 (y1 % 256), .int .u8 0, .int .u8 0, .int .u8 0, .int .u8 0, .int .u8 0, .int .u8 0, .int .u8 0, .int .u8 0, .int .u8 0, .int .u8 0, .int .u8 0, .int .u8 0, .int .u8 0]) := by rw [← hw]; exact Lib.hid ((G2.out.put 2 _).far (by omega) _ _)
 have Dq : Hid (Bk x3 w.heap.size 36 zero16) := by rw [← hw]; exact Lib.hid ((D2.out.far (by omega) _ _).far (by omega) _ _)
 have bq : Below w.heap.size w x3 := by rw [← hw]; exact (b2'.setCell (p := ⟨G, 2, none⟩) (by simp; omega) _).setCell (p := ⟨w.heap.size + 1, 0, none⟩) (by simp) _
 clear hw k0 f0 k1 f1 B2 G2 D2
 obtain ⟨y2, hy2⟩ : ∃ y, y = y1 / 256 := ⟨_, rfl⟩
 have ly2 : 0 ≤ y2 := by omega
 have uy2 : y2 < 4294967296 := by omega
 rw [← hy2] at Bq
 have Hy2 := Lib.hid hy2
 clear hy2
 have B3 := Bq
 have G3 := Gq
 have D3 := Dq
 have b3' := bq
 clear Bq Gq Dq bq b2'
 have k0 : x3.cell? ⟨w.heap.size + 1, 0, none⟩ = some (.int .u32 y2) := B3.out.cell 0
 have f0 : x3.frozen? ⟨w.heap.size + 1, 0, none⟩ = false := B3.out.fr 0
 have k1 : x3.cell? ⟨G, 3, none⟩ = some (.int .u8 0) := G3.out.cell 3
 have f1 : x3.frozen? ⟨G, 3, none⟩ = false := G3.out.fr 3
 rw [rounds_succ]
 go_wp2_with fail
 generalize hw : ((x3.setCell ⟨G, 3, none⟩ (.int .u8 (y2 % 256))).setCell ⟨w.heap.size + 1, 0, none⟩ (.int .u32 (y2 / 256))) = x4
 have Bq : Hid (Bk x4 (w.heap.size + 1) 64 #[.int .u32 (y2 / 256), .int .u32 S.b, .int .u32 S.c, .int .u32 S.d]) := by rw [← hw]; exact Lib.hid ((B3.out.far (by omega) _ _).put 0 _)
 have Gq : Hid (Bk x4 G 36 #[.int .u8 (S.a % 256), .int .u8 (y0 % 256), .int .u8 (y1 % 256), .int .u8 (y2 % 256), .int .u8 0, .int .u8 0, .int .u8 0, .int .u8 0, .int .u8 0, .int .u8 0, .int .u8 0, .int .u8 0, .int .u8 0, .int .u8 0, .int .u8 0, .int .u8 0]) := by rw [← hw]; exact Lib.hid ((G3.out.put 3 _).far (by omega) _ _)
 have Dq : Hid (Bk x4 w.heap.size 36 zero16) := by rw [← hw]; exact Lib.hid ((D3.out.far (by omega) _ _).far (by omega) _ _)
 have bq : Below w.heap.size w x4 := by rw [← hw]; exact (b3'.setCell (p := ⟨G, 3, none⟩) (by simp; omega) _).setCell (p := ⟨w.heap.size + 1, 0, none⟩) (by simp) _
 clear hw k0 f0 k1 f1 B3 G3 D3
 obtain ⟨y3, hy3⟩ : ∃ y, y = y2 / 256 := ⟨_, rfl⟩
 have ly3 : 0 ≤ y3 := by omega
 have uy3 : y3 < 4294967296 := by omega
 rw [← hy3] at Bq
 have Hy3 := Lib.hid hy3
 clear hy3
 have B4 := Bq
 have G4 := Gq
 have D4 := Dq
 have b4' := bq
 clear Bq Gq Dq bq b3'
 have k0 : x4.cell? ⟨w.heap.size + 1, 1, none⟩ = some (.int .u32 S.b) := B4.out.cell 1
 have f0 : x4.frozen? ⟨w.heap.size + 1, 1, none⟩ = false := B4.out.fr 1
 have k1 : x4.cell? ⟨G, 4, none⟩ = some (.int .u8 0) := G4.out.cell 4
 have f1 : x4.frozen? ⟨G, 4, none⟩ = false := G4.out.fr 4
 rw [rounds_succ]
 go_wp2_with fail
 generalize hw : ((x4.setCell ⟨G, 4, none⟩ (.int .u8 (S.b % 256))).setCell ⟨w.heap.size + 1, 1, none⟩ (.int .u32 (S.b / 256))) = x5
 have Bq : Hid (Bk x5 (w.heap.size + 1) 64 #[.int .u32 y3, .int .u32 (S.b / 256), .int .u32 S.c, .int .u32 S.d]) := by rw [← hw]; exact Lib.hid ((B4.out.far (by omega) _ _).put 1 _)
 have Gq : Hid (Bk x5 G 36 #[.int .u8 (S.a % 256), .int .u8 (y0 % 256), .int .u8 (y1 % 256), .int .u8 (y2 % 256), .int .u8 (S.b % 256), .int .u8 0, .int .u8 0, .int .u8 0, .int .u8 0, .int .u8 0, .int .u8 0, .int .u8 0, .int .u8 0, .int .u8 0, .int .u8 0, .int .u8 0]) := by rw [← hw]; exact Lib.hid ((G4.out.put 4 _).far (by omega) _ _)
 have Dq : Hid (Bk x5 w.heap.size 36 zero16) := by rw [← hw]; exact Lib.hid ((D4.out.far (by omega) _ _).far (by omega) _ _)
 have bq : Below w.heap.size w x5 := by rw [← hw]; exact (b4'.setCell (p := ⟨G, 4, none⟩) (by simp; omega) _).setCell (p := ⟨w.heap.size + 1, 1, none⟩) (by simp) _
 clear hw k0 f0 k1 f1 B4 G4 D4
 obtain ⟨y4, hy4⟩ : ∃ y, y = S.b / 256 := ⟨_, rfl⟩
 have ly4 : 0 ≤ y4 := by omega
 have uy4 : y4 < 4294967296 := by omega
 rw [← hy4] at Bq
 have Hy4 := Lib.hid hy4
 clear hy4
 have B5 := Bq
 have G5 := Gq
 have D5 := Dq
 have b5' := bq
 clear Bq Gq Dq bq b4'
 have k0 : x5.cell? ⟨w.heap.size + 1, 1, none⟩ = some (.int .u32 y4) := B5.out.cell 1
 have f0 : x5.frozen? ⟨w.heap.size + 1, 1, none⟩ = false := B5.out.fr 1
 have k1 : x5.cell? ⟨G, 5, none⟩ = some (.int .u8 0) := G5.out.cell 5
 have f1 : x5.frozen? ⟨G, 5, none⟩ = false := G5.out.fr 5
 rw [rounds_succ]
 go_wp2_with fail
 generalize hw : ((x5.setCell ⟨G, 5, none⟩ (.int .u8 (y4 % 256))).setCell ⟨w.heap.size + 1, 1, none⟩ (.int .u32 (y4 / 256))) = x6
 have Bq : Hid (Bk x6 (w.heap.size + 1) 64 #[.int .u32 y3, .int .u32 (y4 / 256), .int .u32 S.c, .int .u32 S.d]) := by rw [← hw]; exact Lib.hid ((B5.out.far (by omega) _ _).put 1 _)
 have Gq : Hid (Bk x6 G 36 #[.int .u8 (S.a % 256), .int .u8 (y0 % 256), .int .u8 (y1 % 256), .int .u8 (y2 % 256), .int .u8 (S.b % 256), .int .u8 (y4 % 256), .int .u8 0, .int .u8 0, .int .u8 0, .int .u8 0, .int .u8 0, .int .u8 0, .int .u8 0, .int .u8 0, .int .u8 0, .int .u8 0]) := by rw [← hw]; exact Lib.hid ((G5.out.put 5 _).far (by omega) _ _)
 have Dq : Hid (Bk x6 w.heap.size 36 zero16) := by rw [← hw]; exact Lib.hid ((D5.out.far (by omega) _ _).far (by omega) _ _)
 have bq : Below w.heap.size w x6 := by rw [← hw]; exact (b5'.setCell (p := ⟨G, 5, none⟩) (by simp; omega) _).setCell (p := ⟨w.heap.size + 1, 1, none⟩) (by simp) _
 clear hw k0 f0 k1 f1 B5 G5 D5
 obtain ⟨y5, hy5⟩ : ∃ y, y = y4 / 256 := ⟨_, rfl⟩
 have ly5 : 0 ≤ y5 := by omega
 have uy5 : y5 < 4294967296 := by omega
 rw [← hy5] at Bq
 have Hy5 := Lib.hid hy5
 clear hy5
 have B6 := Bq
 have G6 := Gq
 have D6 := Dq
 have b6' := bq
 clear Bq Gq Dq bq b5'
 have k0 : x6.cell? ⟨w.heap.size + 1, 1, none⟩ = some (.int .u32 y5) := B6.out.cell 1
 have f0 : x6.frozen? ⟨w.heap.size + 1, 1, none⟩ = false := B6.out.fr 1
 have k1 : x6.cell? ⟨G, 6, none⟩ = some (.int .u8 0) := G6.out.cell 6
 have f1 : x6.frozen? ⟨G, 6, none⟩ = false := G6.out.fr 6
 rw [rounds_succ]
 go_wp2_with fail
 generalize hw : ((x6.setCell ⟨G, 6, none⟩ (.int .u8 (y5 % 256))).setCell ⟨w.heap.size + 1, 1, none⟩ (.int .u32 (y5 / 256))) = x7
 have Bq : Hid (Bk x7 (w.heap.size + 1) 64 #[.int .u32 y3, .int .u32 (y5 / 256), .int .u32 S.c, .int .u32 S.d]) := by rw [← hw]; exact Lib.hid ((B6.out.far (by omega) _ _).put 1 _)
 have Gq : Hid (Bk x7 G 36 #[.int .u8 (S.a % 256), .int .u8 (y0 % 256), .int .u8 (y1 % 256), .int .u8 (y2 % 256), .int .u8 (S.b % 256), .int .u8 (y4 % 256), .int .u8 (y5 % 256), .int .u8 0, .int .u8 0, .int .u8 0, .int .u8 0, .int .u8 0, .int .u8 0, .int .u8 0, .int .u8 0, .int .u8 0]) := by rw [← hw]; exact Lib.hid ((G6.out.put 6 _).far (by omega) _ _)
 have Dq : Hid (Bk x7 w.heap.size 36 zero16) := by rw [← hw]; exact Lib.hid ((D6.out.far (by omega) _ _).far (by omega) _ _)
 have bq : Below w.heap.size w x7 := by rw [← hw]; exact (b6'.setCell (p := ⟨G, 6, none⟩) (by simp; omega) _).setCell (p := ⟨w.heap.size + 1, 1, none⟩) (by simp) _
 clear hw k0 f0 k1 f1 B6 G6 D6
 obtain ⟨y6, hy6⟩ : ∃ y, y = y5 / 256 := ⟨_, rfl⟩
 have ly6 : 0 ≤ y6 := by omega
 have uy6 : y6 < 4294967296 := by omega
 rw [← hy6] at Bq
 have Hy6 := Lib.hid hy6
 clear hy6
 have B7 := Bq
 have G7 := Gq
 have D7 := Dq
 have b7' := bq
 clear Bq Gq Dq bq b6'
 have k0 : x7.cell? ⟨w.heap.size + 1, 1, none⟩ = some (.int .u32 y6) := B7.out.cell 1
 have f0 : x7.frozen? ⟨w.heap.size + 1, 1, none⟩ = false := B7.out.fr 1
 have k1 : x7.cell? ⟨G, 7, none⟩ = some (.int .u8 0) := G7.out.cell 7
 have f1 : x7.frozen? ⟨G, 7, none⟩ = false := G7.out.fr 7
 rw [rounds_succ]
 go_wp2_with fail
 generalize hw : ((x7.setCell ⟨G, 7, none⟩ (.int .u8 (y6 % 256))).setCell ⟨w.heap.size + 1, 1, none⟩ (.int .u32 (y6 / 256))) = x8
 have Bq : Hid (Bk x8 (w.heap.size + 1) 64 #[.int .u32 y3, .int .u32 (y6 / 256), .int .u32 S.c, .int .u32 S.d]) := by rw [← hw]; exact Lib.hid ((B7.out.far (by omega) _ _).put 1 _)
 have Gq : Hid (Bk x8 G 36 #[.int .u8 (S.a % 256), .int .u8 (y0 % 256), .int .u8 (y1 % 256), .int .u8 (y2 % 256), .int .u8 (S.b % 256), .int .u8 (y4 % 256), .int .u8 (y5 % 256), .int .u8 (y6 % 256), .int .u8 0, .int .u8 0, .int .u8 0, .int .u8 0, .int .u8 0, .int .u8 0, .int .u8 0, .int .u8 0]) := by rw [← hw]; exact Lib.hid ((G7.out.put 7 _).far (by omega) _ _)
 have Dq : Hid (Bk x8 w.heap.size 36 zero16) := by rw [← hw]; exact Lib.hid ((D7.out.far (by omega) _ _).far (by omega) _ _)
 have bq : Below w.heap.size w x8 := by rw [← hw]; exact (b7'.setCell (p := ⟨G, 7, none⟩) (by simp; omega) _).setCell (p := ⟨w.heap.size + 1, 1, none⟩) (by simp) _
 clear hw k0 f0 k1 f1 B7 G7 D7
 obtain ⟨y7, hy7⟩ : ∃ y, y = y6 / 256 := ⟨_, rfl⟩
 have ly7 : 0 ≤ y7 := by omega
 have uy7 : y7 < 4294967296 := by omega
 rw [← hy7] at Bq
 have Hy7 := Lib.hid hy7
 clear hy7
 have B8 := Bq
 have G8 := Gq
 have D8 := Dq
 have b8' := bq
 clear Bq Gq Dq bq b7'
 have k0 : x8.cell? ⟨w.heap.size + 1, 2, none⟩ = some (.int .u32 S.c) := B8.out.cell 2
 have f0 : x8.frozen? ⟨w.heap.size + 1, 2, none⟩ = false := B8.out.fr 2
 have k1 : x8.cell? ⟨G, 8, none⟩ = some (.int .u8 0) := G8.out.cell 8
 have f1 : x8.frozen? ⟨G, 8, none⟩ = false := G8.out.fr 8
 rw [rounds_succ]
 go_wp2_with fail
 generalize hw : ((x8.setCell ⟨G, 8, none⟩ (.int .u8 (S.c % 256))).setCell ⟨w.heap.size + 1, 2, none⟩ (.int .u32 (S.c / 256))) = x9
 have Bq : Hid (Bk x9 (w.heap.size + 1) 64 #[.int .u32 y3, .int .u32 y7, .int .u32 (S.c / 256), .int .u32 S.d]) := by rw [← hw]; exact Lib.hid ((B8.out.far (by omega) _ _).put 2 _)
 have Gq : Hid (Bk x9 G 36 #[.int .u8 (S.a % 256), .int .u8 (y0 % 256), .int .u8 (y1 % 256), .int .u8 (y2 % 256), .int .u8 (S.b % 256), .int .u8 (y4 % 256), .int .u8 (y5 % 256), .int .u8 (y6 % 256), .int .u8 (S.c % 256), .int .u8 0, .int .u8 0, .int .u8 0, .int .u8 0, .int .u8 0, .int .u8 0, .int .u8 0]) := by rw [← hw]; exact Lib.hid ((G8.out.put 8 _).far (by omega) _ _)
 have Dq : Hid (Bk x9 w.heap.size 36 zero16) := by rw [← hw]; exact Lib.hid ((D8.out.far (by omega) _ _).far (by omega) _ _)
 have bq : Below w.heap.size w x9 := by rw [← hw]; exact (b8'.setCell (p := ⟨G, 8, none⟩) (by simp; omega) _).setCell (p := ⟨w.heap.size + 1, 2, none⟩) (by simp) _
 clear hw k0 f0 k1 f1 B8 G8 D8
 obtain ⟨y8, hy8⟩ : ∃ y, y = S.c / 256 := ⟨_, rfl⟩
 have ly8 : 0 ≤ y8 := by omega
 have uy8 : y8 < 4294967296 := by omega
 rw [← hy8] at Bq
 have Hy8 := Lib.hid hy8
 clear hy8
 have B9 := Bq
 have G9 := Gq
 have D9 := Dq
 have b9' := bq
 clear Bq Gq Dq bq b8'
 have k0 : x9.cell? ⟨w.heap.size + 1, 2, none⟩ = some (.int .u32 y8) := B9.out.cell 2
 have f0 : x9.frozen? ⟨w.heap.size + 1, 2, none⟩ = false := B9.out.fr 2
 have k1 : x9.cell? ⟨G, 9, none⟩ = some (.int .u8 0) := G9.out.cell 9
 have f1 : x9.frozen? ⟨G, 9, none⟩ = false := G9.out.fr 9
 rw [rounds_succ]
 go_wp2_with fail
 generalize hw : ((x9.setCell ⟨G, 9, none⟩ (.int .u8 (y8 % 256))).setCell ⟨w.heap.size + 1, 2, none⟩ (.int .u32 (y8 / 256))) = x10
 have Bq : Hid (Bk x10 (w.heap.size + 1) 64 #[.int .u32 y3, .int .u32 y7, .int .u32 (y8 / 256), .int .u32 S.d]) := by rw [← hw]; exact Lib.hid ((B9.out.far (by omega) _ _).put 2 _)
 have Gq : Hid (Bk x10 G 36 #[.int .u8 (S.a % 256), .int .u8 (y0 % 256), .int .u8 (y1 % 256), .int .u8 (y2 % 256), .int .u8 (S.b % 256), .int .u8 (y4 % 256), .int .u8 (y5 % 256), .int .u8 (y6 % 256), .int .u8 (S.c % 256), .int .u8 (y8 % 256), .int .u8 0, .int .u8 0, .int .u8 0, .int .u8 0, .int .u8 0, .int .u8 0]) := by rw [← hw]; exact Lib.hid ((G9.out.put 9 _).far (by omega) _ _)
 have Dq : Hid (Bk x10 w.heap.size 36 zero16) := by rw [← hw]; exact Lib.hid ((D9.out.far (by omega) _ _).far (by omega) _ _)
 have bq : Below w.heap.size w x10 := by rw [← hw]; exact (b9'.setCell (p := ⟨G, 9, none⟩) (by simp; omega) _).setCell (p := ⟨w.heap.size + 1, 2, none⟩) (by simp) _
 clear hw k0 f0 k1 f1 B9 G9 D9
 obtain ⟨y9, hy9⟩ : ∃ y, y = y8 / 256 := ⟨_, rfl⟩
 have ly9 : 0 ≤ y9 := by omega
 have uy9 : y9 < 4294967296 := by omega
 rw [← hy9] at Bq
 have Hy9 := Lib.hid hy9
 clear hy9
 have B10 := Bq
 have G10 := Gq
 have D10 := Dq
 have b10' := bq
 clear Bq Gq Dq bq b9'
 have k0 : x10.cell? ⟨w.heap.size + 1, 2, none⟩ = some (.int .u32 y9) := B10.out.cell 2
 have f0 : x10.frozen? ⟨w.heap.size + 1, 2, none⟩ = false := B10.out.fr 2
 have k1 : x10.cell? ⟨G, 10, none⟩ = some (.int .u8 0) := G10.out.cell 10
 have f1 : x10.frozen? ⟨G, 10, none⟩ = false := G10.out.fr 10
 rw [rounds_succ]
 go_wp2_with fail
 generalize hw : ((x10.setCell ⟨G, 10, none⟩ (.int .u8 (y9 % 256))).setCell ⟨w.heap.size + 1, 2, none⟩ (.int .u32 (y9 / 256))) = x11
 have Bq : Hid (Bk x11 (w.heap.size + 1) 64 #[.int .u32 y3, .int .u32 y7, .int .u32 (y9 / 256), .int .u32 S.d]) := by rw [← hw]; exact Lib.hid ((B10.out.far (by omega) _ _).put 2 _)
 have Gq : Hid (Bk x11 G 36 #[.int .u8 (S.a % 256), .int .u8 (y0 % 256), .int .u8 (y1 % 256), .int .u8 (y2 % 256), .int .u8 (S.b % 256), .int .u8 (y4 % 256), .int .u8 (y5 % 256), .int .u8 (y6 % 256), .int .u8 (S.c % 256), .int .u8 (y8 % 256), .int .u8 (y9 % 256), .int .u8 0, .int .u8 0, .int .u8 0, .int .u8 0, .int .u8 0]) := by rw [← hw]; exact Lib.hid ((G10.out.put 10 _).far (by omega) _ _)
 have Dq : Hid (Bk x11 w.heap.size 36 zero16) := by rw [← hw]; exact Lib.hid ((D10.out.far (by omega) _ _).far (by omega) _ _)
 have bq : Below w.heap.size w x11 := by rw [← hw]; exact (b10'.setCell (p := ⟨G, 10, none⟩) (by simp; omega) _).setCell (p := ⟨w.heap.size + 1, 2, none⟩) (by simp) _
 clear hw k0 f0 k1 f1 B10 G10 D10
 obtain ⟨y10, hy10⟩ : ∃ y, y = y9 / 256 := ⟨_, rfl⟩
 have ly10 : 0 ≤ y10 := by omega
 have uy10 : y10 < 4294967296 := by omega
 rw [← hy10] at Bq
 have Hy10 := Lib.hid hy10
 clear hy10
 have B11 := Bq
 have G11 := Gq
 have D11 := Dq
 have b11' := bq
 clear Bq Gq Dq bq b10'
 have k0 : x11.cell? ⟨w.heap.size + 1, 2, none⟩ = some (.int .u32 y10) := B11.out.cell 2
 have f0 : x11.frozen? ⟨w.heap.size + 1, 2, none⟩ = false := B11.out.fr 2
 have k1 : x11.cell? ⟨G, 11, none⟩ = some (.int .u8 0) := G11.out.cell 11
 have f1 : x11.frozen? ⟨G, 11, none⟩ = false := G11.out.fr 11
 rw [rounds_succ]
 go_wp2_with fail
 generalize hw : ((x11.setCell ⟨G, 11, none⟩ (.int .u8 (y10 % 256))).setCell ⟨w.heap.size + 1, 2, none⟩ (.int .u32 (y10 / 256))) = x12
 have Bq : Hid (Bk x12 (w.heap.size + 1) 64 #[.int .u32 y3, .int .u32 y7, .int .u32 (y10 / 256), .int .u32 S.d]) := by rw [← hw]; exact Lib.hid ((B11.out.far (by omega) _ _).put 2 _)
 have Gq : Hid (Bk x12 G 36 #[.int .u8 (S.a % 256), .int .u8 (y0 % 256), .int .u8 (y1 % 256), .int .u8 (y2 % 256), .int .u8 (S.b % 256), .int .u8 (y4 % 256), .int .u8 (y5 % 256), .int .u8 (y6 % 256), .int .u8 (S.c % 256), .int .u8 (y8 % 256), .int .u8 (y9 % 256), .int .u8 (y10 % 256), .int .u8 0, .int .u8 0, .int .u8 0, .int .u8 0]) := by rw [← hw]; exact Lib.hid ((G11.out.put 11 _).far (by omega) _ _)
 have Dq : Hid (Bk x12 w.heap.size 36 zero16) := by rw [← hw]; exact Lib.hid ((D11.out.far (by omega) _ _).far (by omega) _ _)
 have bq : Below w.heap.size w x12 := by rw [← hw]; exact (b11'.setCell (p := ⟨G, 11, none⟩) (by simp; omega) _).setCell (p := ⟨w.heap.size + 1, 2, none⟩) (by simp) _
 clear hw k0 f0 k1 f1 B11 G11 D11
 obtain ⟨y11, hy11⟩ : ∃ y, y = y10 / 256 := ⟨_, rfl⟩
 have ly11 : 0 ≤ y11 := by omega
 have uy11 : y11 < 4294967296 := by omega
 rw [← hy11] at Bq
 have Hy11 := Lib.hid hy11
 clear hy11
 have B12 := Bq
 have G12 := Gq
 have D12 := Dq
 have b12' := bq
 clear Bq Gq Dq bq b11'
 have k0 : x12.cell? ⟨w.heap.size + 1, 3, none⟩ = some (.int .u32 S.d) := B12.out.cell 3
 have f0 : x12.frozen? ⟨w.heap.size + 1, 3, none⟩ = false := B12.out.fr 3
 have k1 : x12.cell? ⟨G, 12, none⟩ = some (.int .u8 0) := G12.out.cell 12
 have f1 : x12.frozen? ⟨G, 12, none⟩ = false := G12.out.fr 12
 rw [rounds_succ]
 go_wp2_with fail
 generalize hw : ((x12.setCell ⟨G, 12, none⟩ (.int .u8 (S.d % 256))).setCell ⟨w.heap.size + 1, 3, none⟩ (.int .u32 (S.d / 256))) = x13
 have Bq : Hid (Bk x13 (w.heap.size + 1) 64 #[.int .u32 y3, .int .u32 y7, .int .u32 y11, .int .u32 (S.d / 256)]) := by rw [← hw]; exact Lib.hid ((B12.out.far (by omega) _ _).put 3 _)
 have Gq : Hid (Bk x13 G 36 #[.int .u8 (S.a % 256), .int .u8 (y0 % 256), .int .u8 (y1 % 256), .int .u8 (y2 % 256), .int .u8 (S.b % 256), .int .u8 (y4 % 256), .int .u8 (y5 % 256), .int .u8 (y6 % 256), .int .u8 (S.c % 256), .int .u8 (y8 % 256), .int .u8 (y9 % 256), .int .u8 (y10 % 256), .int .u8 (S.d % 256), .int .u8 0, .int .u8 0, .int .u8 0]) := by rw [← hw]; exact Lib.hid ((G12.out.put 12 _).far (by omega) _ _)
 have Dq : Hid (Bk x13 w.heap.size 36 zero16) := by rw [← hw]; exact Lib.hid ((D12.out.far (by omega) _ _).far (by omega) _ _)
 have bq : Below w.heap.size w x13 := by rw [← hw]; exact (b12'.setCell (p := ⟨G, 12, none⟩) (by simp; omega) _).setCell (p := ⟨w.heap.size + 1, 3, none⟩) (by simp) _
 clear hw k0 f0 k1 f1 B12 G12 D12
 obtain ⟨y12, hy12⟩ : ∃ y, y = S.d / 256 := ⟨_, rfl⟩
 have ly12 : 0 ≤ y12 := by omega
 have uy12 : y12 < 4294967296 := by omega
 rw [← hy12] at Bq
 have Hy12 := Lib.hid hy12
 clear hy12
 have B13 := Bq
 have G13 := Gq
 have D13 := Dq
 have b13' := bq
 clear Bq Gq Dq bq b12'
 have k0 : x13.cell? ⟨w.heap.size + 1, 3, none⟩ = some (.int .u32 y12) := B13.out.cell 3
 have f0 : x13.frozen? ⟨w.heap.size + 1, 3, none⟩ = false := B13.out.fr 3
 have k1 : x13.cell? ⟨G, 13, none⟩ = some (.int .u8 0) := G13.out.cell 13
 have f1 : x13.frozen? ⟨G, 13, none⟩ = false := G13.out.fr 13
 rw [rounds_succ]
 go_wp2_with fail
 generalize hw : ((x13.setCell ⟨G, 13, none⟩ (.int .u8 (y12 % 256))).setCell ⟨w.heap.size + 1, 3, none⟩ (.int .u32 (y12 / 256))) = x14
 have Bq : Hid (Bk x14 (w.heap.size + 1) 64 #[.int .u32 y3, .int .u32 y7, .int .u32 y11, .int .u32 (y12 / 256)]) := by rw [← hw]; exact Lib.hid ((B13.out.far (by omega) _ _).put 3 _)
 have Gq : Hid (Bk x14 G 36 #[.int .u8 (S.a % 256), .int .u8 (y0 % 256), .int .u8 (y1 % 256), .int .u8 (y2 % 256), .int .u8 (S.b % 256), .int .u8 (y4 % 256), .int .u8 (y5 % 256), .int .u8 (y6 % 256), .int .u8 (S.c % 256), .int .u8 (y8 % 256), .int .u8 (y9 % 256), .int .u8 (y10 % 256), .int .u8 (S.d % 256), .int .u8 (y12 % 256), .int .u8 0, .int .u8 0]) := by rw [← hw]; exact Lib.hid ((G13.out.put 13 _).far (by omega) _ _)
 have Dq : Hid (Bk x14 w.heap.size 36 zero16) := by rw [← hw]; exact Lib.hid ((D13.out.far (by omega) _ _).far (by omega) _ _)
 have bq : Below w.heap.size w x14 := by rw [← hw]; exact (b13'.setCell (p := ⟨G, 13, none⟩) (by simp; omega) _).setCell (p := ⟨w.heap.size + 1, 3, none⟩) (by simp) _
 clear hw k0 f0 k1 f1 B13 G13 D13
 obtain ⟨y13, hy13⟩ : ∃ y, y = y12 / 256 := ⟨_, rfl⟩
 have ly13 : 0 ≤ y13 := by omega
 have uy13 : y13 < 4294967296 := by omega
 rw [← hy13] at Bq
 have Hy13 := Lib.hid hy13
 clear hy13
 have B14 := Bq
 have G14 := Gq
 have D14 := Dq
 have b14' := bq
 clear Bq Gq Dq bq b13'
 have k0 : x14.cell? ⟨w.heap.size + 1, 3, none⟩ = some (.int .u32 y13) := B14.out.cell 3
 have f0 : x14.frozen? ⟨w.heap.size + 1, 3, none⟩ = false := B14.out.fr 3
 have k1 : x14.cell? ⟨G, 14, none⟩ = some (.int .u8 0) := G14.out.cell 14
 have f1 : x14.frozen? ⟨G, 14, none⟩ = false := G14.out.fr 14
 rw [rounds_succ]
 go_wp2_with fail
 generalize hw : ((x14.setCell ⟨G, 14, none⟩ (.int .u8 (y13 % 256))).setCell ⟨w.heap.size + 1, 3, none⟩ (.int .u32 (y13 / 256))) = x15
 have Bq : Hid (Bk x15 (w.heap.size + 1) 64 #[.int .u32 y3, .int .u32 y7, .int .u32 y11, .int .u32 (y13 / 256)]) := by rw [← hw]; exact Lib.hid ((B14.out.far (by omega) _ _).put 3 _)
 have Gq : Hid (Bk x15 G 36 #[.int .u8 (S.a % 256), .int .u8 (y0 % 256), .int .u8 (y1 % 256), .int .u8 (y2 % 256), .int .u8 (S.b % 256), .int .u8 (y4 % 256), .int .u8 (y5 % 256), .int .u8 (y6 % 256), .int .u8 (S.c % 256), .int .u8 (y8 % 256), .int .u8 (y9 % 256), .int .u8 (y10 % 256), .int .u8 (S.d % 256), .int .u8 (y12 % 256), .int .u8 (y13 % 256), .int .u8 0]) := by rw [← hw]; exact Lib.hid ((G14.out.put 14 _).far (by omega) _ _)
 have Dq : Hid (Bk x15 w.heap.size 36 zero16) := by rw [← hw]; exact Lib.hid ((D14.out.far (by omega) _ _).far (by omega) _ _)
 have bq : Below w.heap.size w x15 := by rw [← hw]; exact (b14'.setCell (p := ⟨G, 14, none⟩) (by simp; omega) _).setCell (p := ⟨w.heap.size + 1, 3, none⟩) (by simp) _
 clear hw k0 f0 k1 f1 B14 G14 D14
 obtain ⟨y14, hy14⟩ : ∃ y, y = y13 / 256 := ⟨_, rfl⟩
 have ly14 : 0 ≤ y14 := by omega
 have uy14 : y14 < 4294967296 := by omega
 rw [← hy14] at Bq
 have Hy14 := Lib.hid hy14
 clear hy14
 have B15 := Bq
 have G15 := Gq
 have D15 := Dq
 have b15' := bq
 clear Bq Gq Dq bq b14'
 have k0 : x15.cell? ⟨w.heap.size + 1, 3, none⟩ = some (.int .u32 y14) := B15.out.cell 3
 have f0 : x15.frozen? ⟨w.heap.size + 1, 3, none⟩ = false := B15.out.fr 3
 have k1 : x15.cell? ⟨G, 15, none⟩ = some (.int .u8 0) := G15.out.cell 15
 have f1 : x15.frozen? ⟨G, 15, none⟩ = false := G15.out.fr 15
 rw [rounds_succ]
 go_wp2_with fail
 generalize hw : ((x15.setCell ⟨G, 15, none⟩ (.int .u8 (y14 % 256))).setCell ⟨w.heap.size + 1, 3, none⟩ (.int .u32 (y14 / 256))) = x16
 have Bq : Hid (Bk x16 (w.heap.size + 1) 64 #[.int .u32 y3, .int .u32 y7, .int .u32 y11, .int .u32 (y14 / 256)]) := by rw [← hw]; exact Lib.hid ((B15.out.far (by omega) _ _).put 3 _)
 have Gq : Hid (Bk x16 G 36 #[.int .u8 (S.a % 256), .int .u8 (y0 % 256), .int .u8 (y1 % 256), .int .u8 (y2 % 256), .int .u8 (S.b % 256), .int .u8 (y4 % 256), .int .u8 (y5 % 256), .int .u8 (y6 % 256), .int .u8 (S.c % 256), .int .u8 (y8 % 256), .int .u8 (y9 % 256), .int .u8 (y10 % 256), .int .u8 (S.d % 256), .int .u8 (y12 % 256), .int .u8 (y13 % 256), .int .u8 (y14 % 256)]) := by rw [← hw]; exact Lib.hid ((G15.out.put 15 _).far (by omega) _ _)
 have Dq : Hid (Bk x16 w.heap.size 36 zero16) := by rw [← hw]; exact Lib.hid ((D15.out.far (by omega) _ _).far (by omega) _ _)
 have bq : Below w.heap.size w x16 := by rw [← hw]; exact (b15'.setCell (p := ⟨G, 15, none⟩) (by simp; omega) _).setCell (p := ⟨w.heap.size + 1, 3, none⟩) (by simp) _
 clear hw k0 f0 k1 f1 B15 G15 D15
 obtain ⟨y15, hy15⟩ : ∃ y, y = y14 / 256 := ⟨_, rfl⟩
 have ly15 : 0 ≤ y15 := by omega
 have uy15 : y15 < 4294967296 := by omega
 rw [← hy15] at Bq
 have Hy15 := Lib.hid hy15
 clear hy15
 have B16 := Bq
 have G16 := Gq
 have D16 := Dq
 have b16' := bq
 clear Bq Gq Dq bq b15'
 obtain ⟨ds, hds⟩ : ∃ ds : List Value, ds = [.int .u8 (S.a % 256), .int .u8 (y0 % 256), .int .u8 (y1 % 256), .int .u8 (y2 % 256), .int .u8 (S.b % 256), .int .u8 (y4 % 256), .int .u8 (y5 % 256), .int .u8 (y6 % 256), .int .u8 (S.c % 256), .int .u8 (y8 % 256), .int .u8 (y9 % 256), .int .u8 (y10 % 256), .int .u8 (S.d % 256), .int .u8 (y12 % 256), .int .u8 (y13 % 256), .int .u8 (y14 % 256)] := ⟨_, rfl⟩
 have hval : digV (sumL l) = .agg ds.toArray := by
  have e0 := Hy0.out; have e1 := Hy1.out; have e2 := Hy2.out
  have e4 := Hy4.out; have e5 := Hy5.out; have e6 := Hy6.out
  have e8 := Hy8.out; have e9 := Hy9.out; have e10 := Hy10.out
  have e12 := Hy12.out; have e13 := Hy13.out; have e14 := Hy14.out
  have q0 : S.a / 256 = y0 := by omega
  have q1 : S.a / 65536 = y1 := by omega
  have q2 : S.a / 16777216 = y2 := by omega
  have q4 : S.b / 256 = y4 := by omega
  have q5 : S.b / 65536 = y5 := by omega
  have q6 : S.b / 16777216 = y6 := by omega
  have q8 : S.c / 256 = y8 := by omega
  have q9 : S.c / 65536 = y9 := by omega
  have q10 : S.c / 16777216 = y10 := by omega
  have q12 : S.d / 256 = y12 := by omega
  have q13 : S.d / 65536 = y13 := by omega
  have q14 : S.d / 16777216 = y14 := by omega
  rw [hds]; unfold sumL; rw [← HS.out]; unfold digV digL Lib.byteCells
  simp only [List.map_cons, List.map_nil, by8_int, q0, q1, q2, q4, q5, q6, q8, q9, q10, q12, q13, q14]
 have gds : Hid (Bk x16 G 36 ds.toArray) := by rw [hds]; exact G16
 have hdl : ds.length = 16 := by rw [hds]; rfl
 have hone : ds.toArray.all (·.oneCell') = true := by
  have q : (Lib.byteCells (sumL l)).toArray = ds.toArray := by unfold digV at hval; injection hval
  rw [← q]; exact bytes_one _
 have HV := Lib.hid hval
 have HDL := Lib.hid hdl
 have HO := Lib.hid hone
 have hi3 := Lib.hid (show (Try.prog.info? 36).map (·.size) = some ds.toArray.size by rw [sm_dsize]; simp [hdl])
 have hi4 := Lib.hid (show (Try.prog.info? 36).map (·.size) = some ds.length by rw [sm_dsize, hdl])
 obtain ⟨dd, hd⟩ : ∃ d, Try.prog.underlying 36 = some d ∧ d.isRow = true := ⟨_, Try.underlying36, rfl⟩
 have HD := Lib.hid hd
 have RG := Lib.hid (show x16.rangeAt G 0 ds from gds.out.range)
 have TH := Lib.hid (show x16.there w.heap.size 0 ds.toArray.size by rw [show ds.toArray.size = 16 by simp [HDL.out]]; exact D16.out.there 16 rfl)
 clear hds hval hdl hone hd gds G16 D16 B16 Hy0 ly0 uy0 Hy1 ly1 uy1 Hy2 ly2 uy2 Hy3 ly3 uy3 Hy4 ly4 uy4 Hy5 ly5 uy5 Hy6 ly6 uy6 Hy7 ly7 uy7 Hy8 ly8 uy8 Hy9 ly9 uy9 Hy10 ly10 uy10 Hy11 ly11 uy11 Hy12 ly12 uy12 Hy13 ly13 uy13 Hy14 ly14 uy14 Hy15 ly15 uy15 HS a0 a1 b0 b1 c0 c1 d0 d1
 rw [rounds_succ]
 go_wp2_with (first | ((with_reducible refine sm_at_load ?_ ?_); (focus go_simp); (refine fun K hK => wp_load_mid 36 _ rfl G 0 rfl ds _ RG.out HD.out.1 HD.out.2 hi4.out (hK _ _ ?_))) | ((with_reducible refine sm_at_store ?_ ?_); (focus go_simp); (refine fun K hK => wp_store_mid 36 _ _ rfl w.heap.size 0 ds.toArray rfl rfl TH.out hi3.out HO.out (hK _ _ ?_))))
 rw [HV.out]
 exact bodyPost_ret (sm_results_cell rfl _ _ _ w.heap.size 0 rfl ds dd (World.rangeAt_setCells_same _ _ _ _ (by simpa using TH.out)) HD.out.1 HD.out.2 hi4.out) rfl ⟨rfl, sm_below_setCells _ _ _ (Nat.le_refl _) b16'⟩
theorem rsum_core (l : List UInt8) (Ad : Option Addr) (A o c : Nat) (hc : l.length ≤ c) (hnil : Ad = none → c = 0) (hm : l.length < 140737488351233) (w : World) (hAd : 0 < l.length → Ad = some ⟨A, o, none⟩) (hA : A < w.heap.size)
  (hl : ∀ i, i < l.length → w.cell? ⟨A, o + i, none⟩ = some (.int .u8 (l.getD i 0).toNat)) :
  Calls Try.prog 70 #[.slice Ad l.length c] w fun e w' => e = .returned (digV (sumL l)) ∧ Below w.heap.size w w' := rsum_core0 l Ad A o c hc hnil hm w hAd (fun _ => hA) hl
end Go.Proofs.Ytopamplmpfndlaa.Sm
