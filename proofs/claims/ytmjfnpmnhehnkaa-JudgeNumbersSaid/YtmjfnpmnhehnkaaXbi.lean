/- Jn -/
import Derived.Test.YtmjfnpmnhehnkaaXbh
namespace Go.Proofs.Ytmjfnpmnhehnkaa
open Go.RowKit
def PairR (l : List Rt) (i k : Nat) : Prop := ∃ x y : Rt, i < k ∧ l[i]? = some x ∧ l[k]? = some y ∧ EndR x ∧ TellR y ∧ x.life = y.life
def AftI (l : List Rt) (i : Nat) : Prop := ∃ i' k', i' < i ∧ PairR l i' k'
def AftK (l : List Rt) (i k : Nat) : Prop := AftI l i ∨ ∃ k', k' < k ∧ PairR l i k'
theorem AftI.zero (l : List Rt) : ¬ AftI l 0 := fun ⟨_, _, h, _⟩ => absurd h (Nat.not_lt_zero _)
theorem AftK.zero (l : List Rt) (i : Nat) : AftK l i 0 ↔ AftI l i := ⟨fun h => h.elim id (fun ⟨_, h, _⟩ => absurd h (Nat.not_lt_zero _)), Or.inl⟩
theorem AftK.succ (l : List Rt) (i k : Nat) : AftK l i (k + 1) ↔ (AftK l i k ∨ PairR l i k) := by
 constructor
 ·rintro (h | ⟨k', h1, h2⟩)
  ·exact Or.inl (Or.inl h)
  rcases Nat.lt_or_ge k' k with h3 | h3
  ·exact Or.inl (Or.inr ⟨k', h3, h2⟩)
  obtain rfl : k' = k := by omega
  exact Or.inr h2
 rintro ((h | ⟨k', h1, h2⟩) | h)
 ·exact Or.inl h
 ·exact Or.inr ⟨k', by omega, h2⟩
 exact Or.inr ⟨k, by omega, h⟩
theorem AftI.succ (l : List Rt) (i : Nat) : AftI l (i + 1) ↔ AftK l i l.length := by
 constructor
 ·rintro ⟨i', k', h1, h2⟩
  rcases Nat.lt_or_ge i' i with h3 | h3
  ·exact Or.inl ⟨i', k', h3, h2⟩
  obtain rfl : i' = i := by omega
  obtain ⟨x, y, a, b, c, d⟩ := h2
  exact Or.inr ⟨k', (List.getElem?_eq_some_iff.1 c).1, x, y, a, b, c, d⟩
 rintro (⟨i', k', h1, h2⟩ | ⟨k', h1, h2⟩)
 ·exact ⟨i', k', by omega, h2⟩
 exact ⟨i, k', by omega, h2⟩
theorem AftI.all (l : List Rt) : AftI l l.length ↔ AfterP l := by
 constructor
 ·rintro ⟨i, k, _, x, y, a, b, c, d, e, f⟩
  exact ⟨i, k, x, y, a, (List.getElem?_eq_some_iff.1 c).1, b, c, d, e, f⟩
 rintro ⟨i, k, x, y, a, b, c, d, e, f, g⟩
 exact ⟨i, k, by omega, x, y, a, c, d, e, f, g⟩
theorem PairR.iff {l : List Rt} {i k : Nat} {x y : Rt} (hx : l[i]? = some x) (hy : l[k]? = some y) : PairR l i k ↔ (i < k ∧ EndR x ∧ TellR y ∧ x.life = y.life) := by
 constructor
 ·rintro ⟨x', y', h1, h2, h3, h4, h5, h6⟩
  rw [hx] at h2; rw [hy] at h3
  cases h2; cases h3
  exact ⟨h1, h4, h5, h6⟩
 rintro ⟨h1, h2, h3, h4⟩
 exact ⟨x, y, h1, hx, hy, h2, h3, h4⟩
theorem range_ex {w w' : World} {a o : Nat} {cs : List Value} (h : w.rangeAt a o cs) (k : Ex w w') (ha : a < w.heap.size) : w'.rangeAt a o cs := fun j v hv => (Below.cell (p := ⟨a, o + j, none⟩) k ha).trans (h j v hv)
theorem ld_rrid {o : Oper} {a : Act} {w : World} {K : Act → World → Prop} {Q : Exit → Act → World → Prop} (y : Operand) (g off : Nat) (x : Rt) (hx : x.Ok) (ho : o.op = .load 32 y) (ha : a.eval y = .pointer (some ⟨g, off + 1, none⟩)) (h : w.rangeAt g off x.C) (hk : K (a.put o.dst (digV x.id)) w) : o.wp Try.prog a w K Q := by
 obtain ⟨dd, hd⟩ : ∃ d, Try.prog.underlying 32 = some d ∧ d.isRow = true := ⟨_, Try.underlying32, rfl⟩
 refine wp_load_mid 32 y ho g (off + 1) ha (Lib.byteCells x.id) dd (fun j u hu => ?_) hd.1 hd.2 (by rw [Try.sizeId, byteCells_len, hx.idN]) hk
 have hj : j < 4 := by
  have := (List.getElem?_eq_some_iff.1 hu).1
  rw [byteCells_len, hx.idN] at this; exact this
 have h1 := h (1 + j) u (by
  have e := congrArg (fun l : List Value => l[j]?) (Rt.id_at hx)
  simp only [List.getElem?_take, List.getElem?_drop] at e
  rw [if_pos (by rw [byteCells_len, hx.idN]; exact hj)] at e
  rw [e]; exact hu)
 rw [← Nat.add_assoc] at h1; exact h1
theorem rr_cells {w : World} {g off : Nat} {x : Rt} (hx : x.Ok) (h : w.rangeAt g off x.C) : w.cell? ⟨g, off, none⟩ = some (.int .i64 x.why) ∧ w.cell? ⟨g, off + 5, none⟩ = some (.int .u64 x.gen) ∧ w.cell? ⟨g, off + 6, none⟩ = some (.int .i64 x.left) ∧ w.cell? ⟨g, off + 7, none⟩ = some x.sec.V :=
 ⟨h 0 _ (Rt.why_at hx), h 5 _ (Rt.gen_at hx), h 6 _ (Rt.left_at hx), h 7 _ (Rt.sec_at hx)⟩
theorem wrong_b (x y : Rt) : wrongB x.id x.gen y = (decide (y.id = x.id) && decide (y.gen = x.gen) && decide (y.why = 23)) := by
 unfold wrongB; rw [Bool.decide_and]
theorem told_b (x y : Rt) : toldB x.id x.gen y = (decide (y.id = x.id) && decide (y.gen = x.gen) && (decide (y.why = 0) && decide (0 < y.sec.l.length))) := by
 unfold toldB; rw [Bool.decide_and, Bool.decide_and]
theorem cnt0 {p : Rt → Bool} {l : List Rt} {k c : Nat} {y : Rt} (h : (l.take (k + 1)).countP p = c + (if p y = true then 1 else 0)) (hp : p y = false) : Value.int .i64 ((c : Nat) : Int) = .int .i64 (((l.take (k + 1)).countP p : Nat) : Int) := by
 rw [h, hp]; rfl
theorem cnt1 {p : Rt → Bool} {l : List Rt} {k c : Nat} {y : Rt} (h : (l.take (k + 1)).countP p = c + (if p y = true then 1 else 0)) (hp : p y = true) : Value.int .i64 ((c : Int) + 1) = .int .i64 (((l.take (k + 1)).countP p : Nat) : Int) := by
 rw [h, hp]; rfl
set_option maxHeartbeats 8000000 in
set_option maxRecDepth 100000 in
theorem replies25 (ad : Option Addr) (cap : Nat) (l : List Rt) (w : World) (hL : l.length ≤ 9223372036854775807) (hin : Rp.In ad cap l w) : Calls Try.prog 46 #[.slice ad l.length cap] w fun e w' => e = .returned (.bool true) ∧ Ex w w' := by
 obtain ⟨n, hn⟩ : ∃ n, n = l.length := ⟨_, rfl⟩
 rw [show (Value.slice ad l.length cap) = .slice ad n cap by rw [hn]]
 rw [← hn] at hL
 have HN := Hi hn
 have HIN := Hi hin
 clear hn hin
 go_enter Try.func46, Try.ntmps46
 go_wp2_with fail
 go_loopw [3, 4] (fun aft i wr => ∃ (a : Bool) (k : Nat), k ≤ n ∧ aft = .bool a ∧ i = .int .i64 k ∧ Hid (a = true ↔ AftI l k) ∧ Hid (Ex w wr)) (fun _ i _ => n - (intOf i).toNat)
 case atStart => exact ⟨false, 0, by omega, rfl, rfl, Hi ⟨fun h => (by cases h), fun h => absurd h (AftI.zero l)⟩, Hi (Ex.refl _)⟩
 obtain ⟨aft, i, hi, rfl, rfl, HA, BX⟩ := hrel
 by_cases hlt : i < n
 rotate_left
 ·obtain rfl : i = n := by omega
  have q1 : ¬ (i : Int) < (i : Int) := by omega
  go_wp2_with fail
  have CF2 : Hid (Calls Try.prog 49 #[.slice ad i cap] wr fun e w' => e = .returned (.bool aft) ∧ Ex wr w') := Hi (by
   have CF := aft_any ad cap l wr (by rw [← HN.out]; exact hL) (HIN.out.ext BX.out)
   rw [← HN.out] at CF
   have hab : aftB l = aft := Bool.eq_iff_iff.2 ((aftB_iff l).trans ((AftI.all l).symm.trans (by rw [← HN.out]; exact HA.out.symm)))
   rw [hab] at CF; exact CF)
  go_wp2_with fail
  refine CF2.out.mono ?_
  rintro e w9 ⟨rfl, x9⟩
  clear CF2
  have Z : Hid (Ex w w9) := Hi (Ex.trans BX.out x9)
  clear x9
  go_wp2_with fail
  go_ret
  exact ⟨by simp, Z.out⟩
 obtain ⟨ab, ofs, rfl, hab, hc⟩ := HIN.out.read (by rw [← HN.out]; omega)
 obtain ⟨x, hx⟩ : ∃ x, l[i]? = some x := ⟨_, List.getElem?_eq_getElem (by rw [← HN.out]; exact hlt)⟩
 have HX := Hi hx
 have HAB := Hi hab
 have HC := Hi hc
 clear hx hab hc
 have XOK := Hi (HIN.out.ins i x HX.out).ok
 have q0 : (0 : Int) ≤ (i : Int) := by omega
 have q1 : (i : Int) < (n : Int) := by omega
 go_wp2_with fail
 obtain ⟨wr1, rfl⟩ : ∃ u, u = wr := ⟨_, rfl⟩
 go_loopw [3, 5, 6, 7] (fun t3 t5 t6 t7 wr => ∃ (a : Bool) (k : Nat), k ≤ n ∧ t3 = .bool a ∧ t5 = .int .i64 ((l.take k).countP (wrongB x.id x.gen) : Nat) ∧ t6 = .int .i64 ((l.take k).countP (toldB x.id x.gen) : Nat) ∧ t7 = .int .i64 k ∧ Hid (a = true ↔ AftK l i k) ∧ Hid (Ex w wr)) (fun _ _ _ t7 _ => n - (intOf t7).toNat)
 case atStart => exact ⟨aft, 0, by omega, rfl, rfl, rfl, rfl, Hi (HA.out.trans (AftK.zero l i).symm), BX⟩
 clear HA BX
 obtain ⟨aft, k, hk, rfl, rfl, rfl, rfl, HA, BX⟩ := hrel
 by_cases hlk : k < n
 rotate_left
 ·obtain rfl : k = n := by omega
  have k1 : ¬ (k : Int) < (k : Int) := by omega
  go_wp2_with fail
  have XR : Hid (wr.rangeAt ab (ofs + i * 10) x.C) := Hi (fun j u hu => (Below.cell (p := ⟨ab, ofs + i * 10 + j, none⟩) BX.out HAB.out).trans (HC.out i x HX.out j u hu))
  have HTK : Hid (l.take k = l) := Hi (by rw [HN.out]; exact List.take_length)
  rw [HTK.out]
  clear HTK
  have C1 := Hi (fun w1 (q : Ex wr w1) => wrongs_any x.id x.gen (some ⟨ab, ofs, none⟩) cap l w1 XOK.out.idN (by rw [← HN.out]; exact hL) ((HIN.out.ext BX.out).ext q))
  have C2 := Hi (fun w1 (q : Ex wr w1) => told_any x.id x.gen (some ⟨ab, ofs, none⟩) cap l w1 XOK.out.idN (by rw [← HN.out]; exact hL) ((HIN.out.ext BX.out).ext q))
  rw [← HN.out] at C1 C2
  generalize l.countP (wrongB x.id x.gen) = cw at *
  generalize l.countP (toldB x.id x.gen) = ct at *
  have HBZ : Hid (w.heap.size ≤ wr.heap.size) := Hi BX.out.sz'
  have hS0 : ∀ (listed : Array Bool) (f : Nat → Value), (∀ i, listed.getD i false = false) → Ex wr wr.drew := fun _ _ _ => (Below.refl wr.heap.size wr).drew
  obtain ⟨T, hT⟩ : ∃ T : List (Value → Prop), T = [(fun zz => zz = .slice (some ⟨ab, ofs, none⟩) k cap), (fun zz => zz = .int .i64 (i : Int)), (fun zz => zz = .pointer (some ⟨ab, ofs + i * 10, none⟩)), (fun zz => zz = .pointer (some ⟨ab, ofs + i * 10 + 1, none⟩)), (fun zz => zz = digV x.id), (fun zz => zz = .slice (some ⟨ab, ofs, none⟩) k cap), (fun zz => zz = .int .i64 (i : Int)), (fun zz => zz = .pointer (some ⟨ab, ofs + i * 10, none⟩)), (fun zz => zz = .pointer (some ⟨ab, ofs + i * 10 + 5, none⟩)), (fun zz => zz = .int .u64 x.gen), (fun zz => zz = .slice (some ⟨ab, ofs, none⟩) k cap), (fun zz => zz = .int .i64 (cw : Int)), (fun zz => zz = .int .i64 (cw : Int)), (fun zz => zz = .bool false), (fun zz => zz = .bool false), (fun zz => zz = .slice (some ⟨ab, ofs, none⟩) k cap), (fun zz => zz = .int .i64 (i : Int)), (fun zz => zz = .pointer (some ⟨ab, ofs + i * 10, none⟩)), (fun zz => zz = .pointer (some ⟨ab, ofs + i * 10 + 1, none⟩)), (fun zz => zz = digV x.id), (fun zz => zz = .slice (some ⟨ab, ofs, none⟩) k cap), (fun zz => zz = .int .i64 (i : Int)), (fun zz => zz = .pointer (some ⟨ab, ofs + i * 10, none⟩)), (fun zz => zz = .pointer (some ⟨ab, ofs + i * 10 + 5, none⟩)), (fun zz => zz = .int .u64 x.gen), (fun zz => zz = .slice (some ⟨ab, ofs, none⟩) k cap), (fun zz => zz = .int .i64 (ct : Int)), (fun zz => zz = .int .i64 (ct : Int)), (fun zz => zz = .bool false), (fun zz => zz = .bool false)] := ⟨_, rfl⟩
  refine wp_region_gen (JS T ([] : List (Nat × Nat)) (fun _ _ wq => Ex wr wq)) (by kernel_rfl) (by kernel_rfl) (by kernel_rfl) (fitB_spec (by kernel_rfl)) (fun listed f h => JS.start listed f h (hS0 listed f h)) ?_ ?_
  ·intro i o ho
   have hi : i < 30 := (Array.getElem?_eq_some_iff.1 ho).1
   have hi' : i = 0 ∨ i = 1 ∨ i = 2 ∨ i = 3 ∨ i = 4 ∨ i = 5 ∨ i = 6 ∨ i = 7 ∨ i = 8 ∨ i = 9 ∨ i = 10 ∨ i = 11 ∨ i = 12 ∨ i = 13 ∨ i = 14 ∨ i = 15 ∨ i = 16 ∨ i = 17 ∨ i = 18 ∨ i = 19 ∨ i = 20 ∨ i = 21 ∨ i = 22 ∨ i = 23 ∨ i = 24 ∨ i = 25 ∨ i = 26 ∨ i = 27 ∨ i = 28 ∨ i = 29 := by omega
   clear hi
   rcases hi' with rfl | rfl | rfl | rfl | rfl | rfl | rfl | rfl | rfl | rfl | rfl | rfl | rfl | rfl | rfl | rfl | rfl | rfl | rfl | rfl | rfl | rfl | rfl | rfl | rfl | rfl | rfl | rfl | rfl | rfl
   all_goals (simp only [List.getElem?_toArray, List.getElem?_cons_zero, List.getElem?_cons_succ, Option.some.injEq] at ho; subst ho; intro listed f a w7 hJ hsz hls hun hdep hout hlat; first | (rw [if_pos (by rfl)]; intro K hK) | skip)
   ·have q0 := hout 0 (outB_spec (by kernel_rfl))
    refine wp_mv _ rfl (hK _ _ ?_)
    rw [show a.eval (.tmp 0) = .slice (some ⟨ab, ofs, none⟩) k cap from q0]
    exact hJ.nx hls hT rfl rfl hJ.st (no_head rfl)
   ·have q4 := hout 4 (outB_spec (by kernel_rfl))
    refine wp_mv _ rfl (hK _ _ ?_)
    rw [show a.eval (.tmp 4) = .int .i64 (i : Int) from q4]
    exact hJ.nx hls hT rfl rfl hJ.st (no_head rfl)
   ·have q91 := hJ.iq hT (hdep ⟨0, .data⟩ (by simp) rfl) rfl _ rfl _ rfl
    have q92 := hJ.iq hT (hdep ⟨1, .data⟩ (by simp) rfl) rfl _ rfl _ rfl
    clear hsz hdep hout hlat
    go_simp
    exact hK _ _ (hJ.nx hls hT rfl rfl hJ.st (no_head rfl))
   ·have q93 := hJ.iq hT (hdep ⟨2, .data⟩ (by simp) rfl) rfl _ rfl _ rfl
    clear hsz hdep hout hlat
    go_simp
    exact hK _ _ (hJ.nx hls hT rfl rfl hJ.st (no_head rfl))
   ·have q94 := hJ.is hT (hdep ⟨3, .data⟩ (by simp) rfl) rfl _ rfl _ rfl
    exact ld_rrid _ ab (ofs + i * 10) x XOK.out rfl q94 (range_ex XR.out hJ.st (show ab < wr.heap.size from Nat.lt_of_lt_of_le HAB.out HBZ.out)) (hK _ _ (hJ.nx hls hT rfl rfl hJ.st (no_head rfl)))
   ·have q0 := hout 0 (outB_spec (by kernel_rfl))
    refine wp_mv _ rfl (hK _ _ ?_)
    rw [show a.eval (.tmp 0) = .slice (some ⟨ab, ofs, none⟩) k cap from q0]
    exact hJ.nx hls hT rfl rfl hJ.st (no_head rfl)
   ·have q4 := hout 4 (outB_spec (by kernel_rfl))
    refine wp_mv _ rfl (hK _ _ ?_)
    rw [show a.eval (.tmp 4) = .int .i64 (i : Int) from q4]
    exact hJ.nx hls hT rfl rfl hJ.st (no_head rfl)
   ·have q96 := hJ.iq hT (hdep ⟨5, .data⟩ (by simp) rfl) rfl _ rfl _ rfl
    have q97 := hJ.iq hT (hdep ⟨6, .data⟩ (by simp) rfl) rfl _ rfl _ rfl
    clear hsz hdep hout hlat
    go_simp
    exact hK _ _ (hJ.nx hls hT rfl rfl hJ.st (no_head rfl))
   ·have q98 := hJ.iq hT (hdep ⟨7, .data⟩ (by simp) rfl) rfl _ rfl _ rfl
    clear hsz hdep hout hlat
    go_simp
    exact hK _ _ (hJ.nx hls hT rfl rfl hJ.st (no_head rfl))
   ·have q99 := hJ.iq hT (hdep ⟨8, .data⟩ (by simp) rfl) rfl _ rfl _ rfl
    have c0 := (rr_cells XOK.out (range_ex XR.out hJ.st (show ab < wr.heap.size from Nat.lt_of_lt_of_le HAB.out HBZ.out))).2.1
    clear hsz hdep hout hlat
    go_simp
    exact hK _ _ (hJ.nx hls hT rfl rfl hJ.st (no_head rfl))
   ·have q0 := hout 0 (outB_spec (by kernel_rfl))
    refine wp_mv _ rfl (hK _ _ ?_)
    rw [show a.eval (.tmp 0) = .slice (some ⟨ab, ofs, none⟩) k cap from q0]
    exact hJ.nx hls hT rfl rfl hJ.st (no_head rfl)
   ·have q95 := hJ.iq hT (hdep ⟨4, .data⟩ (by simp) rfl) rfl _ rfl _ rfl
    have q100 := hJ.iq hT (hdep ⟨9, .data⟩ (by simp) rfl) rfl _ rfl _ rfl
    have q101 := hJ.iq hT (hdep ⟨10, .data⟩ (by simp) rfl) rfl _ rfl _ rfl
    have hst := hJ.st
    clear hsz hdep hout hlat
    go_simp
    refine (C1.out w7 hst).mono ?_
    rintro e wq ⟨rfl, xq⟩
    exact hK _ _ (hJ.nx hls hT rfl rfl (Ex.trans hst xq) (no_head rfl))
   ·have q5 := hout 5 (outB_spec (by kernel_rfl))
    refine wp_mv _ rfl (hK _ _ ?_)
    rw [show a.eval (.tmp 5) = .int .i64 (cw : Int) from q5]
    exact hJ.nx hls hT rfl rfl hJ.st (no_head rfl)
   ·have q102 := hJ.iq hT (hdep ⟨11, .data⟩ (by simp) rfl) rfl _ rfl _ rfl
    have q103 := hJ.iq hT (hdep ⟨12, .data⟩ (by simp) rfl) rfl _ rfl _ rfl
    clear hsz hdep hout hlat
    go_simp
    exact hK _ _ (hJ.nx hls hT rfl rfl hJ.st (no_head rfl))
   ·have q104 := hJ.is hT (hdep ⟨13, .data⟩ (by simp) rfl) rfl _ rfl _ rfl
    refine wp_mv _ rfl (hK _ _ ?_)
    rw [show a.eval (.tmp 104) = .bool false from q104]
    exact hJ.nx hls hT rfl rfl hJ.st (no_head rfl)
   ·have kg := hJ.is hT (hdep ⟨14, .guard⟩ (by simp) rfl) rfl _ rfl _ rfl
    rw [if_pos (wanted_of rfl rfl rfl kg)]
    clear kg
    intro K hK
    have q0 := hout 0 (outB_spec (by kernel_rfl))
    refine wp_mv _ rfl (hK _ _ ?_)
    rw [show a.eval (.tmp 0) = .slice (some ⟨ab, ofs, none⟩) k cap from q0]
    exact hJ.nx hls hT rfl rfl hJ.st (no_head rfl)
   ·have kg := hJ.is hT (hdep ⟨14, .guard⟩ (by simp) rfl) rfl _ rfl _ rfl
    rw [if_pos (wanted_of rfl rfl rfl kg)]
    clear kg
    intro K hK
    have q4 := hout 4 (outB_spec (by kernel_rfl))
    refine wp_mv _ rfl (hK _ _ ?_)
    rw [show a.eval (.tmp 4) = .int .i64 (i : Int) from q4]
    exact hJ.nx hls hT rfl rfl hJ.st (no_head rfl)
   ·have kg := hJ.is hT (hdep ⟨14, .guard⟩ (by simp) rfl) rfl _ rfl _ rfl
    rw [if_pos (wanted_of rfl rfl rfl kg)]
    clear kg
    intro K hK
    have q106 := hJ.iq hT (hdep ⟨15, .data⟩ (by simp) rfl) rfl _ rfl _ rfl
    have q107 := hJ.iq hT (hdep ⟨16, .data⟩ (by simp) rfl) rfl _ rfl _ rfl
    clear hsz hdep hout hlat
    go_simp
    exact hK _ _ (hJ.nx hls hT rfl rfl hJ.st (no_head rfl))
   ·have kg := hJ.is hT (hdep ⟨14, .guard⟩ (by simp) rfl) rfl _ rfl _ rfl
    rw [if_pos (wanted_of rfl rfl rfl kg)]
    clear kg
    intro K hK
    have q108 := hJ.iq hT (hdep ⟨17, .data⟩ (by simp) rfl) rfl _ rfl _ rfl
    clear hsz hdep hout hlat
    go_simp
    exact hK _ _ (hJ.nx hls hT rfl rfl hJ.st (no_head rfl))
   ·have kg := hJ.is hT (hdep ⟨14, .guard⟩ (by simp) rfl) rfl _ rfl _ rfl
    rw [if_pos (wanted_of rfl rfl rfl kg)]
    clear kg
    intro K hK
    have q109 := hJ.is hT (hdep ⟨18, .data⟩ (by simp) rfl) rfl _ rfl _ rfl
    exact ld_rrid _ ab (ofs + i * 10) x XOK.out rfl q109 (range_ex XR.out hJ.st (show ab < wr.heap.size from Nat.lt_of_lt_of_le HAB.out HBZ.out)) (hK _ _ (hJ.nx hls hT rfl rfl hJ.st (no_head rfl)))
   ·have kg := hJ.is hT (hdep ⟨14, .guard⟩ (by simp) rfl) rfl _ rfl _ rfl
    rw [if_pos (wanted_of rfl rfl rfl kg)]
    clear kg
    intro K hK
    have q0 := hout 0 (outB_spec (by kernel_rfl))
    refine wp_mv _ rfl (hK _ _ ?_)
    rw [show a.eval (.tmp 0) = .slice (some ⟨ab, ofs, none⟩) k cap from q0]
    exact hJ.nx hls hT rfl rfl hJ.st (no_head rfl)
   ·have kg := hJ.is hT (hdep ⟨14, .guard⟩ (by simp) rfl) rfl _ rfl _ rfl
    rw [if_pos (wanted_of rfl rfl rfl kg)]
    clear kg
    intro K hK
    have q4 := hout 4 (outB_spec (by kernel_rfl))
    refine wp_mv _ rfl (hK _ _ ?_)
    rw [show a.eval (.tmp 4) = .int .i64 (i : Int) from q4]
    exact hJ.nx hls hT rfl rfl hJ.st (no_head rfl)
   ·have kg := hJ.is hT (hdep ⟨14, .guard⟩ (by simp) rfl) rfl _ rfl _ rfl
    rw [if_pos (wanted_of rfl rfl rfl kg)]
    clear kg
    intro K hK
    have q111 := hJ.iq hT (hdep ⟨20, .data⟩ (by simp) rfl) rfl _ rfl _ rfl
    have q112 := hJ.iq hT (hdep ⟨21, .data⟩ (by simp) rfl) rfl _ rfl _ rfl
    clear hsz hdep hout hlat
    go_simp
    exact hK _ _ (hJ.nx hls hT rfl rfl hJ.st (no_head rfl))
   ·have kg := hJ.is hT (hdep ⟨14, .guard⟩ (by simp) rfl) rfl _ rfl _ rfl
    rw [if_pos (wanted_of rfl rfl rfl kg)]
    clear kg
    intro K hK
    have q113 := hJ.iq hT (hdep ⟨22, .data⟩ (by simp) rfl) rfl _ rfl _ rfl
    clear hsz hdep hout hlat
    go_simp
    exact hK _ _ (hJ.nx hls hT rfl rfl hJ.st (no_head rfl))
   ·have kg := hJ.is hT (hdep ⟨14, .guard⟩ (by simp) rfl) rfl _ rfl _ rfl
    rw [if_pos (wanted_of rfl rfl rfl kg)]
    clear kg
    intro K hK
    have q114 := hJ.iq hT (hdep ⟨23, .data⟩ (by simp) rfl) rfl _ rfl _ rfl
    have c0 := (rr_cells XOK.out (range_ex XR.out hJ.st (show ab < wr.heap.size from Nat.lt_of_lt_of_le HAB.out HBZ.out))).2.1
    clear hsz hdep hout hlat
    go_simp
    exact hK _ _ (hJ.nx hls hT rfl rfl hJ.st (no_head rfl))
   ·have kg := hJ.is hT (hdep ⟨14, .guard⟩ (by simp) rfl) rfl _ rfl _ rfl
    rw [if_pos (wanted_of rfl rfl rfl kg)]
    clear kg
    intro K hK
    have q0 := hout 0 (outB_spec (by kernel_rfl))
    refine wp_mv _ rfl (hK _ _ ?_)
    rw [show a.eval (.tmp 0) = .slice (some ⟨ab, ofs, none⟩) k cap from q0]
    exact hJ.nx hls hT rfl rfl hJ.st (no_head rfl)
   ·have kg := hJ.is hT (hdep ⟨14, .guard⟩ (by simp) rfl) rfl _ rfl _ rfl
    rw [if_pos (wanted_of rfl rfl rfl kg)]
    clear kg
    intro K hK
    have q110 := hJ.iq hT (hdep ⟨19, .data⟩ (by simp) rfl) rfl _ rfl _ rfl
    have q115 := hJ.iq hT (hdep ⟨24, .data⟩ (by simp) rfl) rfl _ rfl _ rfl
    have q116 := hJ.iq hT (hdep ⟨25, .data⟩ (by simp) rfl) rfl _ rfl _ rfl
    have hst := hJ.st
    clear hsz hdep hout hlat
    go_simp
    refine (C2.out w7 hst).mono ?_
    rintro e wq ⟨rfl, xq⟩
    exact hK _ _ (hJ.nx hls hT rfl rfl (Ex.trans hst xq) (no_head rfl))
   ·have kg := hJ.is hT (hdep ⟨14, .guard⟩ (by simp) rfl) rfl _ rfl _ rfl
    rw [if_pos (wanted_of rfl rfl rfl kg)]
    clear kg
    intro K hK
    have q6 := hout 6 (outB_spec (by kernel_rfl))
    refine wp_mv _ rfl (hK _ _ ?_)
    rw [show a.eval (.tmp 6) = .int .i64 (ct : Int) from q6]
    exact hJ.nx hls hT rfl rfl hJ.st (no_head rfl)
   ·have kg := hJ.is hT (hdep ⟨14, .guard⟩ (by simp) rfl) rfl _ rfl _ rfl
    rw [if_pos (wanted_of rfl rfl rfl kg)]
    clear kg
    intro K hK
    have q117 := hJ.iq hT (hdep ⟨26, .data⟩ (by simp) rfl) rfl _ rfl _ rfl
    have q118 := hJ.iq hT (hdep ⟨27, .data⟩ (by simp) rfl) rfl _ rfl _ rfl
    clear hsz hdep hout hlat
    go_simp
    exact hK _ _ (hJ.nx hls hT rfl rfl hJ.st (no_head rfl))
   have q105 := hJ.iq hT (hdep ⟨14, .data⟩ (by simp) rfl) rfl _ rfl _ rfl
   have q119 := hJ.iq hT (hdep ⟨28, .data⟩ (by simp) rfl) rfl _ rfl _ rfl
   clear hsz hdep hout hlat
   go_simp
   exact hK _ _ (hJ.nx hls hT rfl rfl hJ.st (no_head rfl))
  intro listed f w7 hall hJ
  have f29 : f 29 = .bool false := by
   have h := hJ.vals 29 (hall 29 (by simp))
   rw [hT] at h; exact h
  have hst := hJ.st
  simp only [putAll, Act.put, List.setIfInBounds_toArray, List.set_cons_zero, List.set_cons_succ, Nat.zero_add, Nat.reduceAdd]
  replace BX := Hi (Ex.trans BX.out (show Ex wr w7 from hst))
  clear hst hS0
  rw [f29]
  clear f29
  clear hJ hall hT
  go_wp2_with fail
  go_roundw
  case rel => exact ⟨aft, i + 1, by omega, rfl, by go_num, Hi (HA.out.trans (by rw [AftI.succ, ← HN.out])), BX⟩
  case measure => simp [intOf]; omega
 obtain ⟨y, hy⟩ : ∃ y, l[k]? = some y := ⟨_, List.getElem?_eq_getElem (by rw [← HN.out]; exact hlk)⟩
 have HY := Hi hy
 have YOK := Hi (HIN.out.ins k y hy).ok
 have XR : Hid (wr.rangeAt ab (ofs + i * 10) x.C) := Hi (fun j u hu => (Below.cell (p := ⟨ab, ofs + i * 10 + j, none⟩) BX.out HAB.out).trans (HC.out i x HX.out j u hu))
 have YR : Hid (wr.rangeAt ab (ofs + k * 10) y.C) := Hi (fun j u hu => (Below.cell (p := ⟨ab, ofs + k * 10 + j, none⟩) BX.out HAB.out).trans (HC.out k y hy j u hu))
 have HPR := Hi (PairR.iff HX.out hy)
 have HAS := Hi (AftK.succ l i k)
 have HCN := Hi (count_next (p := wrongB x.id x.gen) hy)
 have HCT := Hi (count_next (p := toldB x.id x.gen) hy)
 have HWB := Hi (wrong_b x y)
 have HTB := Hi (told_b x y)
 have hcl := count_le (wrongB x.id x.gen) l k
 have hct := count_le (toldB x.id x.gen) l k
 obtain ⟨c, hc0⟩ : ∃ c, c = (l.take k).countP (wrongB x.id x.gen) := ⟨_, rfl⟩
 obtain ⟨d, hd0⟩ : ∃ c, c = (l.take k).countP (toldB x.id x.gen) := ⟨_, rfl⟩
 rw [← hc0] at HCN hcl ⊢
 rw [← hd0] at HCT hct ⊢
 clear hc0 hd0 hy
 have k0 : (0 : Int) ≤ (k : Int) := by omega
 have k1 : (k : Int) < (n : Int) := by omega
 have p1 : (c : Int) < 9223372036854775807 := by omega
 have p2 : (0 : Int) ≤ (c : Int) := by omega
 have p3 : (d : Int) < 9223372036854775807 := by omega
 have p4 : (0 : Int) ≤ (d : Int) := by omega
 clear hcl hct
 obtain ⟨e1, he1⟩ : ∃ b, b = decide (y.id = x.id) := ⟨_, rfl⟩
 obtain ⟨e2, he2⟩ : ∃ b, b = decide (y.gen = x.gen) := ⟨_, rfl⟩
 have E1 := Hi he1
 have E2 := Hi he2
 rw [← he1, ← he2] at HWB HTB
 clear he1 he2
 go_wp2_with fail
 have HBZ : Hid (w.heap.size ≤ wr.heap.size) := Hi BX.out.sz'
 cases e1
 ·have HNE : Hid (¬ x.life = y.life) := Hi (fun h => of_decide_eq_false E1.out.symm (congrArg Prod.fst h).symm)
  have hS0 : ∀ (listed : Array Bool) (f : Nat → Value), (∀ i, listed.getD i false = false) → Ex wr wr.drew := fun _ _ _ => (Below.refl wr.heap.size wr).drew
  obtain ⟨T, hT⟩ : ∃ T : List (Value → Prop), T = [(fun zz => zz = .slice (some ⟨ab, ofs, none⟩) n cap), (fun zz => zz = .int .i64 (k : Int)), (fun zz => zz = .pointer (some ⟨ab, ofs + k * 10, none⟩)), (fun zz => zz = .pointer (some ⟨ab, ofs + k * 10 + 1, none⟩)), (fun zz => zz = digV y.id), (fun zz => zz = .slice (some ⟨ab, ofs, none⟩) n cap), (fun zz => zz = .int .i64 (i : Int)), (fun zz => zz = .pointer (some ⟨ab, ofs + i * 10, none⟩)), (fun zz => zz = .pointer (some ⟨ab, ofs + i * 10 + 1, none⟩)), (fun zz => zz = digV x.id), (fun zz => zz = .bool true), (fun zz => zz = .bool true), (fun zz => zz = undef), (fun zz => zz = undef), (fun zz => zz = undef), (fun zz => zz = undef), (fun zz => zz = undef), (fun zz => zz = undef), (fun zz => zz = undef), (fun zz => zz = undef), (fun zz => zz = undef), (fun zz => zz = undef), (fun zz => zz = undef), (fun zz => zz = .bool true)] := ⟨_, rfl⟩
  refine wp_region_gen (JS T ([] : List (Nat × Nat)) (fun _ _ wq => Ex wr wq)) (by kernel_rfl) (by kernel_rfl) (by kernel_rfl) (fitB_spec (by kernel_rfl)) (fun listed f h => JS.start listed f h (hS0 listed f h)) ?_ ?_
  ·intro i o ho
   have hi : i < 24 := (Array.getElem?_eq_some_iff.1 ho).1
   have hi' : i = 0 ∨ i = 1 ∨ i = 2 ∨ i = 3 ∨ i = 4 ∨ i = 5 ∨ i = 6 ∨ i = 7 ∨ i = 8 ∨ i = 9 ∨ i = 10 ∨ i = 11 ∨ i = 12 ∨ i = 13 ∨ i = 14 ∨ i = 15 ∨ i = 16 ∨ i = 17 ∨ i = 18 ∨ i = 19 ∨ i = 20 ∨ i = 21 ∨ i = 22 ∨ i = 23 := by omega
   clear hi
   rcases hi' with rfl | rfl | rfl | rfl | rfl | rfl | rfl | rfl | rfl | rfl | rfl | rfl | rfl | rfl | rfl | rfl | rfl | rfl | rfl | rfl | rfl | rfl | rfl | rfl
   all_goals (simp only [List.getElem?_toArray, List.getElem?_cons_zero, List.getElem?_cons_succ, Option.some.injEq] at ho; subst ho; intro listed f a w4 hJ hsz hls hun hdep hout hlat; first | (rw [if_pos (by rfl)]; intro K hK) | skip)
   ·have q0 := hout 0 (outB_spec (by kernel_rfl))
    refine wp_mv _ rfl (hK _ _ ?_)
    rw [show a.eval (.tmp 0) = .slice (some ⟨ab, ofs, none⟩) n cap from q0]
    exact hJ.nx hls hT rfl rfl hJ.st (no_head rfl)
   ·have q7 := hout 7 (outB_spec (by kernel_rfl))
    refine wp_mv _ rfl (hK _ _ ?_)
    rw [show a.eval (.tmp 7) = .int .i64 (k : Int) from q7]
    exact hJ.nx hls hT rfl rfl hJ.st (no_head rfl)
   ·have q20 := hJ.iq hT (hdep ⟨0, .data⟩ (by simp) rfl) rfl _ rfl _ rfl
    have q21 := hJ.iq hT (hdep ⟨1, .data⟩ (by simp) rfl) rfl _ rfl _ rfl
    clear hsz hdep hout hlat
    go_simp
    exact hK _ _ (hJ.nx hls hT rfl rfl hJ.st (no_head rfl))
   ·have q22 := hJ.iq hT (hdep ⟨2, .data⟩ (by simp) rfl) rfl _ rfl _ rfl
    clear hsz hdep hout hlat
    go_simp
    exact hK _ _ (hJ.nx hls hT rfl rfl hJ.st (no_head rfl))
   ·have q23 := hJ.is hT (hdep ⟨3, .data⟩ (by simp) rfl) rfl _ rfl _ rfl
    exact ld_rrid _ ab (ofs + k * 10) y YOK.out rfl q23 (range_ex YR.out hJ.st (show ab < wr.heap.size from Nat.lt_of_lt_of_le HAB.out BX.out.sz')) (hK _ _ (hJ.nx hls hT rfl rfl hJ.st (no_head rfl)))
   ·have q0 := hout 0 (outB_spec (by kernel_rfl))
    refine wp_mv _ rfl (hK _ _ ?_)
    rw [show a.eval (.tmp 0) = .slice (some ⟨ab, ofs, none⟩) n cap from q0]
    exact hJ.nx hls hT rfl rfl hJ.st (no_head rfl)
   ·have q4 := hout 4 (outB_spec (by kernel_rfl))
    refine wp_mv _ rfl (hK _ _ ?_)
    rw [show a.eval (.tmp 4) = .int .i64 (i : Int) from q4]
    exact hJ.nx hls hT rfl rfl hJ.st (no_head rfl)
   ·have q25 := hJ.iq hT (hdep ⟨5, .data⟩ (by simp) rfl) rfl _ rfl _ rfl
    have q26 := hJ.iq hT (hdep ⟨6, .data⟩ (by simp) rfl) rfl _ rfl _ rfl
    clear hsz hdep hout hlat
    go_simp
    exact hK _ _ (hJ.nx hls hT rfl rfl hJ.st (no_head rfl))
   ·have q27 := hJ.iq hT (hdep ⟨7, .data⟩ (by simp) rfl) rfl _ rfl _ rfl
    clear hsz hdep hout hlat
    go_simp
    exact hK _ _ (hJ.nx hls hT rfl rfl hJ.st (no_head rfl))
   ·have q28 := hJ.is hT (hdep ⟨8, .data⟩ (by simp) rfl) rfl _ rfl _ rfl
    exact ld_rrid _ ab (ofs + i * 10) x XOK.out rfl q28 (range_ex XR.out hJ.st (show ab < wr.heap.size from Nat.lt_of_lt_of_le HAB.out BX.out.sz')) (hK _ _ (hJ.nx hls hT rfl rfl hJ.st (no_head rfl)))
   ·have q24 := hJ.is hT (hdep ⟨4, .data⟩ (by simp) rfl) rfl _ rfl _ rfl
    have q29 := hJ.is hT (hdep ⟨9, .data⟩ (by simp) rfl) rfl _ rfl _ rfl
    exact wp_neq_id _ _ _ rfl y.id x.id YOK.out.idN XOK.out.idN q24 q29 (hK _ _ (hJ.nx hls hT rfl (by exact congrArg Value.bool (by rw [← E1.out]; rfl)) hJ.st (no_head rfl)))
   ·have q30 := hJ.is hT (hdep ⟨10, .data⟩ (by simp) rfl) rfl _ rfl _ rfl
    refine wp_mv _ rfl (hK _ _ ?_)
    rw [show a.eval (.tmp 30) = .bool true from q30]
    exact hJ.nx hls hT rfl rfl hJ.st (no_head rfl)
   ·have kg := hJ.is hT (hdep ⟨11, .guard⟩ (by simp) rfl) rfl _ rfl _ rfl
    rw [if_neg (not_wanted rfl rfl rfl kg (by decide))]
    exact hJ.nx hls hT rfl (by first | exact trivial | rfl) hJ.st (no_head rfl)
   ·have kg := hJ.is hT (hdep ⟨11, .guard⟩ (by simp) rfl) rfl _ rfl _ rfl
    rw [if_neg (not_wanted rfl rfl rfl kg (by decide))]
    exact hJ.nx hls hT rfl (by first | exact trivial | rfl) hJ.st (no_head rfl)
   ·have kg := hJ.is hT (hdep ⟨11, .guard⟩ (by simp) rfl) rfl _ rfl _ rfl
    rw [if_neg (not_wanted rfl rfl rfl kg (by decide))]
    exact hJ.nx hls hT rfl (by first | exact trivial | rfl) hJ.st (no_head rfl)
   ·have kg := hJ.is hT (hdep ⟨11, .guard⟩ (by simp) rfl) rfl _ rfl _ rfl
    rw [if_neg (not_wanted rfl rfl rfl kg (by decide))]
    exact hJ.nx hls hT rfl (by first | exact trivial | rfl) hJ.st (no_head rfl)
   ·have kg := hJ.is hT (hdep ⟨11, .guard⟩ (by simp) rfl) rfl _ rfl _ rfl
    rw [if_neg (not_wanted rfl rfl rfl kg (by decide))]
    exact hJ.nx hls hT rfl (by first | exact trivial | rfl) hJ.st (no_head rfl)
   ·have kg := hJ.is hT (hdep ⟨11, .guard⟩ (by simp) rfl) rfl _ rfl _ rfl
    rw [if_neg (not_wanted rfl rfl rfl kg (by decide))]
    exact hJ.nx hls hT rfl (by first | exact trivial | rfl) hJ.st (no_head rfl)
   ·have kg := hJ.is hT (hdep ⟨11, .guard⟩ (by simp) rfl) rfl _ rfl _ rfl
    rw [if_neg (not_wanted rfl rfl rfl kg (by decide))]
    exact hJ.nx hls hT rfl (by first | exact trivial | rfl) hJ.st (no_head rfl)
   ·have kg := hJ.is hT (hdep ⟨11, .guard⟩ (by simp) rfl) rfl _ rfl _ rfl
    rw [if_neg (not_wanted rfl rfl rfl kg (by decide))]
    exact hJ.nx hls hT rfl (by first | exact trivial | rfl) hJ.st (no_head rfl)
   ·have kg := hJ.is hT (hdep ⟨11, .guard⟩ (by simp) rfl) rfl _ rfl _ rfl
    rw [if_neg (not_wanted rfl rfl rfl kg (by decide))]
    exact hJ.nx hls hT rfl (by first | exact trivial | rfl) hJ.st (no_head rfl)
   ·have kg := hJ.is hT (hdep ⟨11, .guard⟩ (by simp) rfl) rfl _ rfl _ rfl
    rw [if_neg (not_wanted rfl rfl rfl kg (by decide))]
    exact hJ.nx hls hT rfl (by first | exact trivial | rfl) hJ.st (no_head rfl)
   ·have kg := hJ.is hT (hdep ⟨11, .guard⟩ (by simp) rfl) rfl _ rfl _ rfl
    rw [if_neg (not_wanted rfl rfl rfl kg (by decide))]
    exact hJ.nx hls hT rfl (by first | exact trivial | rfl) hJ.st (no_head rfl)
   have q31 := hJ.iq hT (hdep ⟨11, .data⟩ (by simp) rfl) rfl _ rfl _ rfl
   have q42 := hJ.iq hT (hdep ⟨22, .data⟩ (by simp) rfl) rfl _ rfl _ rfl
   clear hsz hdep hout hlat
   go_simp
   exact hK _ _ (hJ.nx hls hT rfl rfl hJ.st (no_head rfl))
  intro listed f w4 hall hJ
  have f23 : f 23 = .bool true := by
   have h := hJ.vals 23 (hall 23 (by simp))
   rw [hT] at h; exact h
  have hst := hJ.st
  simp only [putAll, Act.put, List.setIfInBounds_toArray, List.set_cons_zero, List.set_cons_succ, Nat.zero_add, Nat.reduceAdd]
  have x4 : Ex wr w4 := hst
  replace BX := Hi (Ex.trans BX.out x4)
  skip
  have HABW : ab < wr.heap.size := by (have h1 := HAB.out; have h2 := HBZ.out; omega)
  have XR4 := Hi (range_ex XR.out x4 HABW)
  have YR4 := Hi (range_ex YR.out x4 HABW)
  clear x4 hst hS0 HABW
  rw [f23]
  clear f23
  clear hJ hall hT
  go_wp2_with fail
  go_roundw
  case rel => exact ⟨aft, k + 1, by omega, (by first | rfl | exact congrArg Value.bool (by simpa using hl0) | exact congrArg Value.bool (by simpa using hx23) | exact congrArg Value.bool (by simp)), cnt0 HCN.out (by rw [HWB.out]; rfl), cnt0 HCT.out (by rw [HTB.out]; rfl), by go_num, Hi ((HA.out.trans ⟨Or.inl, fun h => h.resolve_right (fun h => HNE.out (HPR.out.1 h).2.2.2)⟩).trans HAS.out.symm), BX⟩
  case measure => simp [intOf]; omega
 cases e2
 ·have HNE : Hid (¬ x.life = y.life) := Hi (fun h => of_decide_eq_false E2.out.symm (congrArg Prod.snd h).symm)
  have hS0 : ∀ (listed : Array Bool) (f : Nat → Value), (∀ i, listed.getD i false = false) → Ex wr wr.drew := fun _ _ _ => (Below.refl wr.heap.size wr).drew
  obtain ⟨T, hT⟩ : ∃ T : List (Value → Prop), T = [(fun zz => zz = .slice (some ⟨ab, ofs, none⟩) n cap), (fun zz => zz = .int .i64 (k : Int)), (fun zz => zz = .pointer (some ⟨ab, ofs + k * 10, none⟩)), (fun zz => zz = .pointer (some ⟨ab, ofs + k * 10 + 1, none⟩)), (fun zz => zz = digV y.id), (fun zz => zz = .slice (some ⟨ab, ofs, none⟩) n cap), (fun zz => zz = .int .i64 (i : Int)), (fun zz => zz = .pointer (some ⟨ab, ofs + i * 10, none⟩)), (fun zz => zz = .pointer (some ⟨ab, ofs + i * 10 + 1, none⟩)), (fun zz => zz = digV x.id), (fun zz => zz = .bool false), (fun zz => zz = .bool false), (fun zz => zz = .slice (some ⟨ab, ofs, none⟩) n cap), (fun zz => zz = .int .i64 (k : Int)), (fun zz => zz = .pointer (some ⟨ab, ofs + k * 10, none⟩)), (fun zz => zz = .pointer (some ⟨ab, ofs + k * 10 + 5, none⟩)), (fun zz => zz = .int .u64 y.gen), (fun zz => zz = .slice (some ⟨ab, ofs, none⟩) n cap), (fun zz => zz = .int .i64 (i : Int)), (fun zz => zz = .pointer (some ⟨ab, ofs + i * 10, none⟩)), (fun zz => zz = .pointer (some ⟨ab, ofs + i * 10 + 5, none⟩)), (fun zz => zz = .int .u64 x.gen), (fun zz => zz = .bool true), (fun zz => zz = .bool true)] := ⟨_, rfl⟩
  refine wp_region_gen (JS T ([] : List (Nat × Nat)) (fun _ _ wq => Ex wr wq)) (by kernel_rfl) (by kernel_rfl) (by kernel_rfl) (fitB_spec (by kernel_rfl)) (fun listed f h => JS.start listed f h (hS0 listed f h)) ?_ ?_
  ·intro i o ho
   have hi : i < 24 := (Array.getElem?_eq_some_iff.1 ho).1
   have hi' : i = 0 ∨ i = 1 ∨ i = 2 ∨ i = 3 ∨ i = 4 ∨ i = 5 ∨ i = 6 ∨ i = 7 ∨ i = 8 ∨ i = 9 ∨ i = 10 ∨ i = 11 ∨ i = 12 ∨ i = 13 ∨ i = 14 ∨ i = 15 ∨ i = 16 ∨ i = 17 ∨ i = 18 ∨ i = 19 ∨ i = 20 ∨ i = 21 ∨ i = 22 ∨ i = 23 := by omega
   clear hi
   rcases hi' with rfl | rfl | rfl | rfl | rfl | rfl | rfl | rfl | rfl | rfl | rfl | rfl | rfl | rfl | rfl | rfl | rfl | rfl | rfl | rfl | rfl | rfl | rfl | rfl
   all_goals (simp only [List.getElem?_toArray, List.getElem?_cons_zero, List.getElem?_cons_succ, Option.some.injEq] at ho; subst ho; intro listed f a w4 hJ hsz hls hun hdep hout hlat; first | (rw [if_pos (by rfl)]; intro K hK) | skip)
   ·have q0 := hout 0 (outB_spec (by kernel_rfl))
    refine wp_mv _ rfl (hK _ _ ?_)
    rw [show a.eval (.tmp 0) = .slice (some ⟨ab, ofs, none⟩) n cap from q0]
    exact hJ.nx hls hT rfl rfl hJ.st (no_head rfl)
   ·have q7 := hout 7 (outB_spec (by kernel_rfl))
    refine wp_mv _ rfl (hK _ _ ?_)
    rw [show a.eval (.tmp 7) = .int .i64 (k : Int) from q7]
    exact hJ.nx hls hT rfl rfl hJ.st (no_head rfl)
   ·have q20 := hJ.iq hT (hdep ⟨0, .data⟩ (by simp) rfl) rfl _ rfl _ rfl
    have q21 := hJ.iq hT (hdep ⟨1, .data⟩ (by simp) rfl) rfl _ rfl _ rfl
    clear hsz hdep hout hlat
    go_simp
    exact hK _ _ (hJ.nx hls hT rfl rfl hJ.st (no_head rfl))
   ·have q22 := hJ.iq hT (hdep ⟨2, .data⟩ (by simp) rfl) rfl _ rfl _ rfl
    clear hsz hdep hout hlat
    go_simp
    exact hK _ _ (hJ.nx hls hT rfl rfl hJ.st (no_head rfl))
   ·have q23 := hJ.is hT (hdep ⟨3, .data⟩ (by simp) rfl) rfl _ rfl _ rfl
    exact ld_rrid _ ab (ofs + k * 10) y YOK.out rfl q23 (range_ex YR.out hJ.st (show ab < wr.heap.size from Nat.lt_of_lt_of_le HAB.out BX.out.sz')) (hK _ _ (hJ.nx hls hT rfl rfl hJ.st (no_head rfl)))
   ·have q0 := hout 0 (outB_spec (by kernel_rfl))
    refine wp_mv _ rfl (hK _ _ ?_)
    rw [show a.eval (.tmp 0) = .slice (some ⟨ab, ofs, none⟩) n cap from q0]
    exact hJ.nx hls hT rfl rfl hJ.st (no_head rfl)
   ·have q4 := hout 4 (outB_spec (by kernel_rfl))
    refine wp_mv _ rfl (hK _ _ ?_)
    rw [show a.eval (.tmp 4) = .int .i64 (i : Int) from q4]
    exact hJ.nx hls hT rfl rfl hJ.st (no_head rfl)
   ·have q25 := hJ.iq hT (hdep ⟨5, .data⟩ (by simp) rfl) rfl _ rfl _ rfl
    have q26 := hJ.iq hT (hdep ⟨6, .data⟩ (by simp) rfl) rfl _ rfl _ rfl
    clear hsz hdep hout hlat
    go_simp
    exact hK _ _ (hJ.nx hls hT rfl rfl hJ.st (no_head rfl))
   ·have q27 := hJ.iq hT (hdep ⟨7, .data⟩ (by simp) rfl) rfl _ rfl _ rfl
    clear hsz hdep hout hlat
    go_simp
    exact hK _ _ (hJ.nx hls hT rfl rfl hJ.st (no_head rfl))
   ·have q28 := hJ.is hT (hdep ⟨8, .data⟩ (by simp) rfl) rfl _ rfl _ rfl
    exact ld_rrid _ ab (ofs + i * 10) x XOK.out rfl q28 (range_ex XR.out hJ.st (show ab < wr.heap.size from Nat.lt_of_lt_of_le HAB.out BX.out.sz')) (hK _ _ (hJ.nx hls hT rfl rfl hJ.st (no_head rfl)))
   ·have q24 := hJ.is hT (hdep ⟨4, .data⟩ (by simp) rfl) rfl _ rfl _ rfl
    have q29 := hJ.is hT (hdep ⟨9, .data⟩ (by simp) rfl) rfl _ rfl _ rfl
    exact wp_neq_id _ _ _ rfl y.id x.id YOK.out.idN XOK.out.idN q24 q29 (hK _ _ (hJ.nx hls hT rfl (by exact congrArg Value.bool (by rw [← E1.out]; rfl)) hJ.st (no_head rfl)))
   ·have q30 := hJ.is hT (hdep ⟨10, .data⟩ (by simp) rfl) rfl _ rfl _ rfl
    refine wp_mv _ rfl (hK _ _ ?_)
    rw [show a.eval (.tmp 30) = .bool false from q30]
    exact hJ.nx hls hT rfl rfl hJ.st (no_head rfl)
   ·have kg := hJ.is hT (hdep ⟨11, .guard⟩ (by simp) rfl) rfl _ rfl _ rfl
    rw [if_pos (wanted_of rfl rfl rfl kg)]
    clear kg
    intro K hK
    have q0 := hout 0 (outB_spec (by kernel_rfl))
    refine wp_mv _ rfl (hK _ _ ?_)
    rw [show a.eval (.tmp 0) = .slice (some ⟨ab, ofs, none⟩) n cap from q0]
    exact hJ.nx hls hT rfl rfl hJ.st (no_head rfl)
   ·have kg := hJ.is hT (hdep ⟨11, .guard⟩ (by simp) rfl) rfl _ rfl _ rfl
    rw [if_pos (wanted_of rfl rfl rfl kg)]
    clear kg
    intro K hK
    have q7 := hout 7 (outB_spec (by kernel_rfl))
    refine wp_mv _ rfl (hK _ _ ?_)
    rw [show a.eval (.tmp 7) = .int .i64 (k : Int) from q7]
    exact hJ.nx hls hT rfl rfl hJ.st (no_head rfl)
   ·have kg := hJ.is hT (hdep ⟨11, .guard⟩ (by simp) rfl) rfl _ rfl _ rfl
    rw [if_pos (wanted_of rfl rfl rfl kg)]
    clear kg
    intro K hK
    have q32 := hJ.iq hT (hdep ⟨12, .data⟩ (by simp) rfl) rfl _ rfl _ rfl
    have q33 := hJ.iq hT (hdep ⟨13, .data⟩ (by simp) rfl) rfl _ rfl _ rfl
    clear hsz hdep hout hlat
    go_simp
    exact hK _ _ (hJ.nx hls hT rfl rfl hJ.st (no_head rfl))
   ·have kg := hJ.is hT (hdep ⟨11, .guard⟩ (by simp) rfl) rfl _ rfl _ rfl
    rw [if_pos (wanted_of rfl rfl rfl kg)]
    clear kg
    intro K hK
    have q34 := hJ.iq hT (hdep ⟨14, .data⟩ (by simp) rfl) rfl _ rfl _ rfl
    clear hsz hdep hout hlat
    go_simp
    exact hK _ _ (hJ.nx hls hT rfl rfl hJ.st (no_head rfl))
   ·have kg := hJ.is hT (hdep ⟨11, .guard⟩ (by simp) rfl) rfl _ rfl _ rfl
    rw [if_pos (wanted_of rfl rfl rfl kg)]
    clear kg
    intro K hK
    have q35 := hJ.iq hT (hdep ⟨15, .data⟩ (by simp) rfl) rfl _ rfl _ rfl
    have c0 := (rr_cells YOK.out (range_ex YR.out hJ.st (show ab < wr.heap.size from Nat.lt_of_lt_of_le HAB.out BX.out.sz'))).2.1
    clear hsz hdep hout hlat
    go_simp
    exact hK _ _ (hJ.nx hls hT rfl rfl hJ.st (no_head rfl))
   ·have kg := hJ.is hT (hdep ⟨11, .guard⟩ (by simp) rfl) rfl _ rfl _ rfl
    rw [if_pos (wanted_of rfl rfl rfl kg)]
    clear kg
    intro K hK
    have q0 := hout 0 (outB_spec (by kernel_rfl))
    refine wp_mv _ rfl (hK _ _ ?_)
    rw [show a.eval (.tmp 0) = .slice (some ⟨ab, ofs, none⟩) n cap from q0]
    exact hJ.nx hls hT rfl rfl hJ.st (no_head rfl)
   ·have kg := hJ.is hT (hdep ⟨11, .guard⟩ (by simp) rfl) rfl _ rfl _ rfl
    rw [if_pos (wanted_of rfl rfl rfl kg)]
    clear kg
    intro K hK
    have q4 := hout 4 (outB_spec (by kernel_rfl))
    refine wp_mv _ rfl (hK _ _ ?_)
    rw [show a.eval (.tmp 4) = .int .i64 (i : Int) from q4]
    exact hJ.nx hls hT rfl rfl hJ.st (no_head rfl)
   ·have kg := hJ.is hT (hdep ⟨11, .guard⟩ (by simp) rfl) rfl _ rfl _ rfl
    rw [if_pos (wanted_of rfl rfl rfl kg)]
    clear kg
    intro K hK
    have q37 := hJ.iq hT (hdep ⟨17, .data⟩ (by simp) rfl) rfl _ rfl _ rfl
    have q38 := hJ.iq hT (hdep ⟨18, .data⟩ (by simp) rfl) rfl _ rfl _ rfl
    clear hsz hdep hout hlat
    go_simp
    exact hK _ _ (hJ.nx hls hT rfl rfl hJ.st (no_head rfl))
   ·have kg := hJ.is hT (hdep ⟨11, .guard⟩ (by simp) rfl) rfl _ rfl _ rfl
    rw [if_pos (wanted_of rfl rfl rfl kg)]
    clear kg
    intro K hK
    have q39 := hJ.iq hT (hdep ⟨19, .data⟩ (by simp) rfl) rfl _ rfl _ rfl
    clear hsz hdep hout hlat
    go_simp
    exact hK _ _ (hJ.nx hls hT rfl rfl hJ.st (no_head rfl))
   ·have kg := hJ.is hT (hdep ⟨11, .guard⟩ (by simp) rfl) rfl _ rfl _ rfl
    rw [if_pos (wanted_of rfl rfl rfl kg)]
    clear kg
    intro K hK
    have q40 := hJ.iq hT (hdep ⟨20, .data⟩ (by simp) rfl) rfl _ rfl _ rfl
    have c0 := (rr_cells XOK.out (range_ex XR.out hJ.st (show ab < wr.heap.size from Nat.lt_of_lt_of_le HAB.out BX.out.sz'))).2.1
    clear hsz hdep hout hlat
    go_simp
    exact hK _ _ (hJ.nx hls hT rfl rfl hJ.st (no_head rfl))
   ·have kg := hJ.is hT (hdep ⟨11, .guard⟩ (by simp) rfl) rfl _ rfl _ rfl
    rw [if_pos (wanted_of rfl rfl rfl kg)]
    clear kg
    intro K hK
    have q36 := hJ.iq hT (hdep ⟨16, .data⟩ (by simp) rfl) rfl _ rfl _ rfl
    have q41 := hJ.iq hT (hdep ⟨21, .data⟩ (by simp) rfl) rfl _ rfl _ rfl
    have hg := E2.out
    clear hsz hdep hout hlat
    go_simp
    exact hK _ _ (hJ.nx hls hT rfl (by refine congrArg Value.bool ?_; have hg2 := of_decide_eq_false E2.out.symm; simpa using hg2) hJ.st (no_head rfl))
   have q31 := hJ.iq hT (hdep ⟨11, .data⟩ (by simp) rfl) rfl _ rfl _ rfl
   have q42 := hJ.iq hT (hdep ⟨22, .data⟩ (by simp) rfl) rfl _ rfl _ rfl
   clear hsz hdep hout hlat
   go_simp
   exact hK _ _ (hJ.nx hls hT rfl rfl hJ.st (no_head rfl))
  intro listed f w4 hall hJ
  have f23 : f 23 = .bool true := by
   have h := hJ.vals 23 (hall 23 (by simp))
   rw [hT] at h; exact h
  have hst := hJ.st
  simp only [putAll, Act.put, List.setIfInBounds_toArray, List.set_cons_zero, List.set_cons_succ, Nat.zero_add, Nat.reduceAdd]
  have x4 : Ex wr w4 := hst
  replace BX := Hi (Ex.trans BX.out x4)
  skip
  have HABW : ab < wr.heap.size := by (have h1 := HAB.out; have h2 := HBZ.out; omega)
  have XR4 := Hi (range_ex XR.out x4 HABW)
  have YR4 := Hi (range_ex YR.out x4 HABW)
  clear x4 hst hS0 HABW
  rw [f23]
  clear f23
  clear hJ hall hT
  go_wp2_with fail
  go_roundw
  case rel => exact ⟨aft, k + 1, by omega, (by first | rfl | exact congrArg Value.bool (by simpa using hl0) | exact congrArg Value.bool (by simpa using hx23) | exact congrArg Value.bool (by simp)), cnt0 HCN.out (by rw [HWB.out]; rfl), cnt0 HCT.out (by rw [HTB.out]; rfl), by go_num, Hi ((HA.out.trans ⟨Or.inl, fun h => h.resolve_right (fun h => HNE.out (HPR.out.1 h).2.2.2)⟩).trans HAS.out.symm), BX⟩
  case measure => simp [intOf]; omega
 have HEQ : Hid (x.life = y.life) := Hi (Prod.ext (of_decide_eq_true E1.out.symm).symm (of_decide_eq_true E2.out.symm).symm)
 have hS0 : ∀ (listed : Array Bool) (f : Nat → Value), (∀ i, listed.getD i false = false) → Ex wr wr.drew := fun _ _ _ => (Below.refl wr.heap.size wr).drew
 obtain ⟨T, hT⟩ : ∃ T : List (Value → Prop), T = [(fun zz => zz = .slice (some ⟨ab, ofs, none⟩) n cap), (fun zz => zz = .int .i64 (k : Int)), (fun zz => zz = .pointer (some ⟨ab, ofs + k * 10, none⟩)), (fun zz => zz = .pointer (some ⟨ab, ofs + k * 10 + 1, none⟩)), (fun zz => zz = digV y.id), (fun zz => zz = .slice (some ⟨ab, ofs, none⟩) n cap), (fun zz => zz = .int .i64 (i : Int)), (fun zz => zz = .pointer (some ⟨ab, ofs + i * 10, none⟩)), (fun zz => zz = .pointer (some ⟨ab, ofs + i * 10 + 1, none⟩)), (fun zz => zz = digV x.id), (fun zz => zz = .bool false), (fun zz => zz = .bool false), (fun zz => zz = .slice (some ⟨ab, ofs, none⟩) n cap), (fun zz => zz = .int .i64 (k : Int)), (fun zz => zz = .pointer (some ⟨ab, ofs + k * 10, none⟩)), (fun zz => zz = .pointer (some ⟨ab, ofs + k * 10 + 5, none⟩)), (fun zz => zz = .int .u64 y.gen), (fun zz => zz = .slice (some ⟨ab, ofs, none⟩) n cap), (fun zz => zz = .int .i64 (i : Int)), (fun zz => zz = .pointer (some ⟨ab, ofs + i * 10, none⟩)), (fun zz => zz = .pointer (some ⟨ab, ofs + i * 10 + 5, none⟩)), (fun zz => zz = .int .u64 x.gen), (fun zz => zz = .bool false), (fun zz => zz = .bool false)] := ⟨_, rfl⟩
 refine wp_region_gen (JS T ([] : List (Nat × Nat)) (fun _ _ wq => Ex wr wq)) (by kernel_rfl) (by kernel_rfl) (by kernel_rfl) (fitB_spec (by kernel_rfl)) (fun listed f h => JS.start listed f h (hS0 listed f h)) ?_ ?_
 ·intro i o ho
  have hi : i < 24 := (Array.getElem?_eq_some_iff.1 ho).1
  have hi' : i = 0 ∨ i = 1 ∨ i = 2 ∨ i = 3 ∨ i = 4 ∨ i = 5 ∨ i = 6 ∨ i = 7 ∨ i = 8 ∨ i = 9 ∨ i = 10 ∨ i = 11 ∨ i = 12 ∨ i = 13 ∨ i = 14 ∨ i = 15 ∨ i = 16 ∨ i = 17 ∨ i = 18 ∨ i = 19 ∨ i = 20 ∨ i = 21 ∨ i = 22 ∨ i = 23 := by omega
  clear hi
  rcases hi' with rfl | rfl | rfl | rfl | rfl | rfl | rfl | rfl | rfl | rfl | rfl | rfl | rfl | rfl | rfl | rfl | rfl | rfl | rfl | rfl | rfl | rfl | rfl | rfl
  all_goals (simp only [List.getElem?_toArray, List.getElem?_cons_zero, List.getElem?_cons_succ, Option.some.injEq] at ho; subst ho; intro listed f a w4 hJ hsz hls hun hdep hout hlat; first | (rw [if_pos (by rfl)]; intro K hK) | skip)
  ·have q0 := hout 0 (outB_spec (by kernel_rfl))
   refine wp_mv _ rfl (hK _ _ ?_)
   rw [show a.eval (.tmp 0) = .slice (some ⟨ab, ofs, none⟩) n cap from q0]
   exact hJ.nx hls hT rfl rfl hJ.st (no_head rfl)
  ·have q7 := hout 7 (outB_spec (by kernel_rfl))
   refine wp_mv _ rfl (hK _ _ ?_)
   rw [show a.eval (.tmp 7) = .int .i64 (k : Int) from q7]
   exact hJ.nx hls hT rfl rfl hJ.st (no_head rfl)
  ·have q20 := hJ.iq hT (hdep ⟨0, .data⟩ (by simp) rfl) rfl _ rfl _ rfl
   have q21 := hJ.iq hT (hdep ⟨1, .data⟩ (by simp) rfl) rfl _ rfl _ rfl
   clear hsz hdep hout hlat
   go_simp
   exact hK _ _ (hJ.nx hls hT rfl rfl hJ.st (no_head rfl))
  ·have q22 := hJ.iq hT (hdep ⟨2, .data⟩ (by simp) rfl) rfl _ rfl _ rfl
   clear hsz hdep hout hlat
   go_simp
   exact hK _ _ (hJ.nx hls hT rfl rfl hJ.st (no_head rfl))
  ·have q23 := hJ.is hT (hdep ⟨3, .data⟩ (by simp) rfl) rfl _ rfl _ rfl
   exact ld_rrid _ ab (ofs + k * 10) y YOK.out rfl q23 (range_ex YR.out hJ.st (show ab < wr.heap.size from Nat.lt_of_lt_of_le HAB.out BX.out.sz')) (hK _ _ (hJ.nx hls hT rfl rfl hJ.st (no_head rfl)))
  ·have q0 := hout 0 (outB_spec (by kernel_rfl))
   refine wp_mv _ rfl (hK _ _ ?_)
   rw [show a.eval (.tmp 0) = .slice (some ⟨ab, ofs, none⟩) n cap from q0]
   exact hJ.nx hls hT rfl rfl hJ.st (no_head rfl)
  ·have q4 := hout 4 (outB_spec (by kernel_rfl))
   refine wp_mv _ rfl (hK _ _ ?_)
   rw [show a.eval (.tmp 4) = .int .i64 (i : Int) from q4]
   exact hJ.nx hls hT rfl rfl hJ.st (no_head rfl)
  ·have q25 := hJ.iq hT (hdep ⟨5, .data⟩ (by simp) rfl) rfl _ rfl _ rfl
   have q26 := hJ.iq hT (hdep ⟨6, .data⟩ (by simp) rfl) rfl _ rfl _ rfl
   clear hsz hdep hout hlat
   go_simp
   exact hK _ _ (hJ.nx hls hT rfl rfl hJ.st (no_head rfl))
  ·have q27 := hJ.iq hT (hdep ⟨7, .data⟩ (by simp) rfl) rfl _ rfl _ rfl
   clear hsz hdep hout hlat
   go_simp
   exact hK _ _ (hJ.nx hls hT rfl rfl hJ.st (no_head rfl))
  ·have q28 := hJ.is hT (hdep ⟨8, .data⟩ (by simp) rfl) rfl _ rfl _ rfl
   exact ld_rrid _ ab (ofs + i * 10) x XOK.out rfl q28 (range_ex XR.out hJ.st (show ab < wr.heap.size from Nat.lt_of_lt_of_le HAB.out BX.out.sz')) (hK _ _ (hJ.nx hls hT rfl rfl hJ.st (no_head rfl)))
  ·have q24 := hJ.is hT (hdep ⟨4, .data⟩ (by simp) rfl) rfl _ rfl _ rfl
   have q29 := hJ.is hT (hdep ⟨9, .data⟩ (by simp) rfl) rfl _ rfl _ rfl
   exact wp_neq_id _ _ _ rfl y.id x.id YOK.out.idN XOK.out.idN q24 q29 (hK _ _ (hJ.nx hls hT rfl (by exact congrArg Value.bool (by rw [← E1.out]; rfl)) hJ.st (no_head rfl)))
  ·have q30 := hJ.is hT (hdep ⟨10, .data⟩ (by simp) rfl) rfl _ rfl _ rfl
   refine wp_mv _ rfl (hK _ _ ?_)
   rw [show a.eval (.tmp 30) = .bool false from q30]
   exact hJ.nx hls hT rfl rfl hJ.st (no_head rfl)
  ·have kg := hJ.is hT (hdep ⟨11, .guard⟩ (by simp) rfl) rfl _ rfl _ rfl
   rw [if_pos (wanted_of rfl rfl rfl kg)]
   clear kg
   intro K hK
   have q0 := hout 0 (outB_spec (by kernel_rfl))
   refine wp_mv _ rfl (hK _ _ ?_)
   rw [show a.eval (.tmp 0) = .slice (some ⟨ab, ofs, none⟩) n cap from q0]
   exact hJ.nx hls hT rfl rfl hJ.st (no_head rfl)
  ·have kg := hJ.is hT (hdep ⟨11, .guard⟩ (by simp) rfl) rfl _ rfl _ rfl
   rw [if_pos (wanted_of rfl rfl rfl kg)]
   clear kg
   intro K hK
   have q7 := hout 7 (outB_spec (by kernel_rfl))
   refine wp_mv _ rfl (hK _ _ ?_)
   rw [show a.eval (.tmp 7) = .int .i64 (k : Int) from q7]
   exact hJ.nx hls hT rfl rfl hJ.st (no_head rfl)
  ·have kg := hJ.is hT (hdep ⟨11, .guard⟩ (by simp) rfl) rfl _ rfl _ rfl
   rw [if_pos (wanted_of rfl rfl rfl kg)]
   clear kg
   intro K hK
   have q32 := hJ.iq hT (hdep ⟨12, .data⟩ (by simp) rfl) rfl _ rfl _ rfl
   have q33 := hJ.iq hT (hdep ⟨13, .data⟩ (by simp) rfl) rfl _ rfl _ rfl
   clear hsz hdep hout hlat
   go_simp
   exact hK _ _ (hJ.nx hls hT rfl rfl hJ.st (no_head rfl))
  ·have kg := hJ.is hT (hdep ⟨11, .guard⟩ (by simp) rfl) rfl _ rfl _ rfl
   rw [if_pos (wanted_of rfl rfl rfl kg)]
   clear kg
   intro K hK
   have q34 := hJ.iq hT (hdep ⟨14, .data⟩ (by simp) rfl) rfl _ rfl _ rfl
   clear hsz hdep hout hlat
   go_simp
   exact hK _ _ (hJ.nx hls hT rfl rfl hJ.st (no_head rfl))
  ·have kg := hJ.is hT (hdep ⟨11, .guard⟩ (by simp) rfl) rfl _ rfl _ rfl
   rw [if_pos (wanted_of rfl rfl rfl kg)]
   clear kg
   intro K hK
   have q35 := hJ.iq hT (hdep ⟨15, .data⟩ (by simp) rfl) rfl _ rfl _ rfl
   have c0 := (rr_cells YOK.out (range_ex YR.out hJ.st (show ab < wr.heap.size from Nat.lt_of_lt_of_le HAB.out BX.out.sz'))).2.1
   clear hsz hdep hout hlat
   go_simp
   exact hK _ _ (hJ.nx hls hT rfl rfl hJ.st (no_head rfl))
  ·have kg := hJ.is hT (hdep ⟨11, .guard⟩ (by simp) rfl) rfl _ rfl _ rfl
   rw [if_pos (wanted_of rfl rfl rfl kg)]
   clear kg
   intro K hK
   have q0 := hout 0 (outB_spec (by kernel_rfl))
   refine wp_mv _ rfl (hK _ _ ?_)
   rw [show a.eval (.tmp 0) = .slice (some ⟨ab, ofs, none⟩) n cap from q0]
   exact hJ.nx hls hT rfl rfl hJ.st (no_head rfl)
  ·have kg := hJ.is hT (hdep ⟨11, .guard⟩ (by simp) rfl) rfl _ rfl _ rfl
   rw [if_pos (wanted_of rfl rfl rfl kg)]
   clear kg
   intro K hK
   have q4 := hout 4 (outB_spec (by kernel_rfl))
   refine wp_mv _ rfl (hK _ _ ?_)
   rw [show a.eval (.tmp 4) = .int .i64 (i : Int) from q4]
   exact hJ.nx hls hT rfl rfl hJ.st (no_head rfl)
  ·have kg := hJ.is hT (hdep ⟨11, .guard⟩ (by simp) rfl) rfl _ rfl _ rfl
   rw [if_pos (wanted_of rfl rfl rfl kg)]
   clear kg
   intro K hK
   have q37 := hJ.iq hT (hdep ⟨17, .data⟩ (by simp) rfl) rfl _ rfl _ rfl
   have q38 := hJ.iq hT (hdep ⟨18, .data⟩ (by simp) rfl) rfl _ rfl _ rfl
   clear hsz hdep hout hlat
   go_simp
   exact hK _ _ (hJ.nx hls hT rfl rfl hJ.st (no_head rfl))
  ·have kg := hJ.is hT (hdep ⟨11, .guard⟩ (by simp) rfl) rfl _ rfl _ rfl
   rw [if_pos (wanted_of rfl rfl rfl kg)]
   clear kg
   intro K hK
   have q39 := hJ.iq hT (hdep ⟨19, .data⟩ (by simp) rfl) rfl _ rfl _ rfl
   clear hsz hdep hout hlat
   go_simp
   exact hK _ _ (hJ.nx hls hT rfl rfl hJ.st (no_head rfl))
  ·have kg := hJ.is hT (hdep ⟨11, .guard⟩ (by simp) rfl) rfl _ rfl _ rfl
   rw [if_pos (wanted_of rfl rfl rfl kg)]
   clear kg
   intro K hK
   have q40 := hJ.iq hT (hdep ⟨20, .data⟩ (by simp) rfl) rfl _ rfl _ rfl
   have c0 := (rr_cells XOK.out (range_ex XR.out hJ.st (show ab < wr.heap.size from Nat.lt_of_lt_of_le HAB.out BX.out.sz'))).2.1
   clear hsz hdep hout hlat
   go_simp
   exact hK _ _ (hJ.nx hls hT rfl rfl hJ.st (no_head rfl))
  ·have kg := hJ.is hT (hdep ⟨11, .guard⟩ (by simp) rfl) rfl _ rfl _ rfl
   rw [if_pos (wanted_of rfl rfl rfl kg)]
   clear kg
   intro K hK
   have q36 := hJ.iq hT (hdep ⟨16, .data⟩ (by simp) rfl) rfl _ rfl _ rfl
   have q41 := hJ.iq hT (hdep ⟨21, .data⟩ (by simp) rfl) rfl _ rfl _ rfl
   have hg := E2.out
   clear hsz hdep hout hlat
   go_simp
   exact hK _ _ (hJ.nx hls hT rfl (by refine congrArg Value.bool ?_; have hg2 := of_decide_eq_true E2.out.symm; rw [hg2]; simp) hJ.st (no_head rfl))
  have q31 := hJ.iq hT (hdep ⟨11, .data⟩ (by simp) rfl) rfl _ rfl _ rfl
  have q42 := hJ.iq hT (hdep ⟨22, .data⟩ (by simp) rfl) rfl _ rfl _ rfl
  clear hsz hdep hout hlat
  go_simp
  exact hK _ _ (hJ.nx hls hT rfl rfl hJ.st (no_head rfl))
 intro listed f w4 hall hJ
 have f23 : f 23 = .bool false := by
  have h := hJ.vals 23 (hall 23 (by simp))
  rw [hT] at h; exact h
 have hst := hJ.st
 simp only [putAll, Act.put, List.setIfInBounds_toArray, List.set_cons_zero, List.set_cons_succ, Nat.zero_add, Nat.reduceAdd]
 have x4 : Ex wr w4 := hst
 replace BX := Hi (Ex.trans BX.out x4)
 skip
 have HABW : ab < wr.heap.size := by (have h1 := HAB.out; have h2 := HBZ.out; omega)
 have XR4 := Hi (range_ex XR.out x4 HABW)
 have YR4 := Hi (range_ex YR.out x4 HABW)
 clear x4 hst hS0 HABW
 rw [f23]
 clear f23
 clear hJ hall hT
 obtain ⟨y0, _, _, y7⟩ := rr_cells YOK.out YR4.out
 obtain ⟨x0, _, x6, _⟩ := rr_cells XOK.out XR4.out
 unfold Pt.V at y7
 obtain ⟨yn, hyn⟩ : ∃ n, n = y.sec.l.length := ⟨_, rfl⟩
 obtain ⟨yw, hyw⟩ : ∃ n, n = y.why := ⟨_, rfl⟩
 obtain ⟨xw, hxw⟩ : ∃ n, n = x.why := ⟨_, rfl⟩
 obtain ⟨xl, hxl⟩ : ∃ n, n = x.left := ⟨_, rfl⟩
 rw [← hyn] at y7 HTB
 rw [← hyw] at y0 HWB HTB
 rw [← hxw] at x0
 rw [← hxl] at x6
 have HTE : Hid (TellR y ↔ (yw = 0 ∧ 0 < yn)) := Hi (by rw [hyw, hyn]; exact Iff.rfl)
 have HEN : Hid (EndR x ↔ (xw = 23 ∧ xl = 0)) := Hi (by rw [hxw, hxl]; exact Iff.rfl)
 clear hyn hyw hxw hxl
 by_cases h23 : yw = 23
 ·subst h23
  go_wp2_with fail
  go_roundw
  case rel => exact ⟨aft, k + 1, by omega, (by first | rfl | exact congrArg Value.bool (by simpa using hl0) | exact congrArg Value.bool (by simpa using hx23) | exact congrArg Value.bool (by simp)), cnt1 HCN.out (by rw [HWB.out]; rfl), cnt0 HCT.out (by rw [HTB.out]; rfl), by go_num, Hi ((HA.out.trans ⟨Or.inl, fun h => h.resolve_right (fun h => absurd (HTE.out.1 (HPR.out.1 h).2.2.1).1 (by decide))⟩).trans HAS.out.symm), BX⟩
  case measure => simp [intOf]; omega
 by_cases h00 : yw = 0
 rotate_left
 ·have HNT : Hid (¬ TellR y) := Hi (fun h => h00 (HTE.out.1 h).1)
  have HWF : Hid (wrongB x.id x.gen y = false) := Hi (by rw [HWB.out, decide_eq_false h23]; rfl)
  have HTF : Hid (toldB x.id x.gen y = false) := Hi (by rw [HTB.out, decide_eq_false h00]; rfl)
  clear HTE HEN HWB HTB y7 x0 x6
  have b23 : (yw == 23) = false := by simpa using h23
  have b00 : (yw == 0) = false := by simpa using h00
  clear h23 h00
  go_wp2_with fail
  go_roundw
  case rel => exact ⟨aft, k + 1, by omega, (by first | rfl | exact congrArg Value.bool (by simpa using hl0) | exact congrArg Value.bool (by simpa using hx23) | exact congrArg Value.bool (by simp)), cnt0 HCN.out (HWF.out), cnt0 HCT.out (HTF.out), by go_num, Hi ((HA.out.trans ⟨Or.inl, fun h => h.resolve_right (fun h => HNT.out (HPR.out.1 h).2.2.1)⟩).trans HAS.out.symm), BX⟩
  case measure => simp [intOf]; omega
 subst h00
 by_cases hyn : 0 < yn
 rotate_left
 ·have hyi : ¬ (0 : Int) < (yn : Int) := by omega
  go_wp2_with fail
  go_roundw
  case rel => exact ⟨aft, k + 1, by omega, (by first | rfl | exact congrArg Value.bool (by simpa using hl0) | exact congrArg Value.bool (by simpa using hx23) | exact congrArg Value.bool (by simp)), cnt0 HCN.out (by rw [HWB.out]; rfl), cnt0 HCT.out (by rw [HTB.out, decide_eq_false hyn]; rfl), by go_num, Hi ((HA.out.trans ⟨Or.inl, fun h => h.resolve_right (fun h => absurd (HTE.out.1 (HPR.out.1 h).2.2.1).2 hyn)⟩).trans HAS.out.symm), BX⟩
  case measure => simp [intOf]; omega
 have hyi : (0 : Int) < (yn : Int) := by omega
 have HT1 : Hid (TellR y) := Hi (HTE.out.2 ⟨rfl, hyn⟩)
 have HTT : Hid (toldB x.id x.gen y = true) := Hi (by rw [HTB.out, decide_eq_true hyn]; rfl)
 have HWW : Hid (wrongB x.id x.gen y = false) := Hi (by rw [HWB.out]; rfl)
 clear HTB HWB
 cases aft
 ·by_cases hik : i < k
  ·have hii : (i : Int) < (k : Int) := by omega
   by_cases hx23 : xw = 23
   ·subst hx23
    by_cases hl0 : xl = 0
    ·subst hl0
     go_wp2_with fail
     go_roundw
     case rel => exact ⟨true, k + 1, by omega, (by first | rfl | exact congrArg Value.bool (by simpa using hl0) | exact congrArg Value.bool (by simpa using hx23) | exact congrArg Value.bool (by simp)), cnt0 HCN.out (HWW.out), cnt1 HCT.out (HTT.out), by go_num, Hi (⟨fun _ => HAS.out.2 (Or.inr (HPR.out.2 ⟨hik, HEN.out.2 ⟨rfl, rfl⟩, HT1.out, HEQ.out⟩)), fun _ => rfl⟩), BX⟩
     case measure => simp [intOf]; omega
    go_wp2_with fail
    go_roundw
    case rel => exact ⟨false, k + 1, by omega, (by first | rfl | exact congrArg Value.bool (by simpa using hl0) | exact congrArg Value.bool (by simpa using hx23) | exact congrArg Value.bool (by simp)), cnt0 HCN.out (HWW.out), cnt1 HCT.out (HTT.out), by go_num, Hi ((HA.out.trans ⟨Or.inl, fun h => h.resolve_right (fun h => absurd (HEN.out.1 (HPR.out.1 h).2.1).2 hl0)⟩).trans HAS.out.symm), BX⟩
    case measure => simp [intOf]; omega
   go_wp2_with fail
   go_roundw
   case rel => exact ⟨false, k + 1, by omega, (by first | rfl | exact congrArg Value.bool (by simpa using hl0) | exact congrArg Value.bool (by simpa using hx23) | exact congrArg Value.bool (by simp)), cnt0 HCN.out (HWW.out), cnt1 HCT.out (HTT.out), by go_num, Hi ((HA.out.trans ⟨Or.inl, fun h => h.resolve_right (fun h => absurd (HEN.out.1 (HPR.out.1 h).2.1).1 hx23)⟩).trans HAS.out.symm), BX⟩
   case measure => simp [intOf]; omega
  have hii : ¬ (i : Int) < (k : Int) := by omega
  go_wp2_with fail
  go_roundw
  case rel => exact ⟨false, k + 1, by omega, (by first | rfl | exact congrArg Value.bool (by simpa using hl0) | exact congrArg Value.bool (by simpa using hx23) | exact congrArg Value.bool (by simp)), cnt0 HCN.out (HWW.out), cnt1 HCT.out (HTT.out), by go_num, Hi ((HA.out.trans ⟨Or.inl, fun h => h.resolve_right (fun h => absurd (HPR.out.1 h).1 hik)⟩).trans HAS.out.symm), BX⟩
  case measure => simp [intOf]; omega
 go_wp2_with fail
 go_roundw
 case rel => exact ⟨true, k + 1, by omega, (by first | rfl | exact congrArg Value.bool (by simpa using hl0) | exact congrArg Value.bool (by simpa using hx23) | exact congrArg Value.bool (by simp)), cnt0 HCN.out (HWW.out), cnt1 HCT.out (HTT.out), by go_num, Hi (⟨fun _ => HAS.out.2 (Or.inl (HA.out.1 rfl)), fun _ => rfl⟩), BX⟩
 case measure => simp [intOf]; omega
end Go.Proofs.Ytmjfnpmnhehnkaa
