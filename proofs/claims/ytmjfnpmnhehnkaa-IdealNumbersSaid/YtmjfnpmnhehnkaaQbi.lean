/- Wh -/
import Derived.Test.YtmjfnpmnhehnkaaQbc
namespace Go.Proofs.Ytmjfnpmnhehnkaa
open Go.RowKit
theorem less_step (a p A B M : Nat) (hA : A < M) (hB : B < M) : (decide (a < p) || (decide (a = p) && decide (A < B))) = decide (a * M + A < p * M + B) := by
 rcases Nat.lt_trichotomy a p with h | h | h
 ·have h1 : (a + 1) * M ≤ p * M := Nat.mul_le_mul_right _ h
  rw [Nat.add_mul, Nat.one_mul] at h1
  rw [decide_eq_true h, decide_eq_true (by omega : a * M + A < p * M + B)]; rfl
 ·subst h
  simp
 have h1 : (p + 1) * M ≤ a * M := Nat.mul_le_mul_right _ h
 rw [Nat.add_mul, Nat.one_mul] at h1
 rw [decide_eq_false (by omega : ¬ a < p), decide_eq_false (by omega : ¬ a = p), decide_eq_false (by omega : ¬ a * M + A < p * M + B)]; rfl
theorem less_idn {x y : List UInt8} (hx : x.length = 4) (hy : y.length = 4) : Op.bytesLess x y = decide (idn x < idn y) := by
 obtain ⟨a, b, c, d, rfl⟩ := len4 hx
 obtain ⟨p, q, r, s, rfl⟩ := len4 hy
 have ha := a.toNat_lt; have hb := b.toNat_lt; have hc := c.toNat_lt; have hd := d.toNat_lt
 have hp := p.toNat_lt; have hq := q.toNat_lt; have hr := r.toNat_lt; have hs := s.toNat_lt
 have u : ∀ (a p : UInt8) (A B : List UInt8), Op.bytesLess (a :: A) (p :: B) = (decide (a.toNat < p.toNat) || (decide (a.toNat = p.toNat) && Op.bytesLess A B)) := fun a p A B => by
  rw [Op.bytesLess]
  congr 1
  congr 1
  by_cases h : a = p
  ·subst h; simp
  have : ¬ a.toNat = p.toNat := fun e => h (UInt8.toNat_inj.1 e)
  rw [decide_eq_false this]; simpa using h
 have e0 : Op.bytesLess [d] [s] = decide (d.toNat < s.toNat) := by
  rw [u, show Op.bytesLess [] [] = false from rfl, Bool.and_false, Bool.or_false]
 rw [u, u, u, e0, less_step c.toNat r.toNat d.toNat s.toNat 256 hd hs, less_step b.toNat q.toNat (c.toNat * 256 + d.toNat) (r.toNat * 256 + s.toNat) 65536 (by omega) (by omega), less_step a.toNat p.toNat (b.toNat * 65536 + (c.toNat * 256 + d.toNat)) (q.toNat * 65536 + (r.toNat * 256 + s.toNat)) 16777216 (by omega) (by omega)]
 unfold idn
 simp only [Nat.add_assoc]
theorem less_str {x y : List UInt8} (hx : x.length = 4) (hy : y.length = 4) : Op.bytesLess (strL x).toList (strL y).toList = decide (idn x < idn y) := by
 rw [ByteArray.toList_eq, ByteArray.toList_eq]
 exact less_idn hx hy
theorem beq_str {x y : List UInt8} (hx : x.length = 4) (hy : y.length = 4) : ((strL x).toList == (strL y).toList) = decide (idn x = idn y) := by
 rw [strL_beq]
 congr 1
 exact propext ⟨fun h => by rw [h], idn_inj hx hy⟩
theorem id_pt9 {w : World} {g : Nat} {id : List UInt8} (hid : id.length = 4) (h : Bk w g 32 (Lib.byteCells id).toArray) : (Pt.mk (some ⟨g, 0, none⟩) 4 id).In w w.heap.size :=
  ⟨by show id.length ≤ 4; omega, (fun h => by cases h), fun _ => ⟨g, 0, rfl, h.lt, fun i hi => by
    have hi' : i < id.length := hi
    rw [Nat.zero_add, h.cell, List.getElem?_toArray]
    rw [byteCells_get id i hi', List.getD_eq_getElem?_getD, List.getElem?_eq_getElem hi']; rfl⟩⟩
theorem gt_nat (m n : Nat) : (!decide (m < n) && !decide (m = n)) = decide (n < m) := by
  by_cases h1 : m < n
  · rw [decide_eq_true h1, decide_eq_false (by omega : ¬ n < m)]; rfl
  by_cases h2 : m = n
  · rw [decide_eq_true h2, decide_eq_false (by omega : ¬ n < m)]; simp
  rw [decide_eq_false h1, decide_eq_false h2, decide_eq_true (by omega : n < m)]; rfl
/-- what comes later: by shard, then by ID -/
def lat (a b : List UInt8) : Bool := decide (Sm.shV b < Sm.shV a ∨ (Sm.shV a = Sm.shV b ∧ idn b < idn a))
set_option maxHeartbeats 8000000 in
set_option maxRecDepth 100000 in
theorem later_any (ia ib : List UInt8) (ha : ia.length = 4) (hb : ib.length = 4) (w : World) : Calls Try.prog 111 #[digV ia, digV ib] w fun e w' => e = .returned (.bool (lat ia ib)) ∧ Ex w w' := by
  have HA := Lib.hid ha
  have HB := Lib.hid hb
  obtain ⟨cs, hcs⟩ : ∃ cs, cs = (Lib.byteCells ia).toArray := ⟨_, rfl⟩
  obtain ⟨ds, hds⟩ : ∃ ds, ds = (Lib.byteCells ib).toArray := ⟨_, rfl⟩
  have A0 : Hid (Bk ((w.alloc (.cells cs 32)).alloc (.cells ds 32)) w.heap.size 32 (Lib.byteCells ia).toArray) := Lib.hid (by rw [hcs]; exact (Bk.new rfl _ _).more _)
  have B0 : Hid (Bk ((w.alloc (.cells cs 32)).alloc (.cells ds 32)) (w.heap.size + 1) 32 (Lib.byteCells ib).toArray) := Lib.hid (by rw [hds]; exact Bk.new (by simp) _ _)
  have BW : Hid (Ex w ((w.alloc (.cells cs 32)).alloc (.cells ds 32))) := Lib.hid (Ex.trans (Ex.alloc w _) (Ex.alloc _ _))
  rw [show (Calls Try.prog 111 #[digV ia, digV ib] w) = (Calls Try.prog 111 #[.agg cs, .agg ds] w) by rw [hcs, hds]; rfl]
  clear hcs hds ha hb
  go_enter Try.func111, Try.ntmps111
  go_wp2_with fail
  change Code.wp _ _ _ _ ((w.alloc (.cells cs 32)).alloc (.cells ds 32))
  generalize hw1 : ((w.alloc (.cells cs 32)).alloc (.cells ds 32)) = w1 at *
  clear hw1
  obtain ⟨B, hB⟩ : ∃ B, B = w.heap.size := ⟨_, rfl⟩
  rw [← hB] at A0 B0 ⊢
  clear hB
  have hS0 : ∀ (listed : Array Bool) (f : Nat → Value), (∀ i, listed.getD i false = false) → Ex w1 w1.drew := fun _ _ _ => (Below.refl w1.heap.size w1).drew
  obtain ⟨T, hT⟩ : ∃ T : List (Value → Prop), T = [(fun zz => zz = digV ia), (fun zz => zz = .int .i64 (Sm.shV ia)), (fun zz => zz = digV ib), (fun zz => zz = .int .i64 (Sm.shV ib)), (fun zz => zz = .int .i64 (Sm.shV ia)), (fun zz => zz = .int .i64 (Sm.shV ib))] := ⟨_, rfl⟩
  refine wp_region_gen (JS T ([] : List (Nat × Nat)) (fun _ _ wq => Ex w1 wq)) (by kernel_rfl) (by kernel_rfl) (by kernel_rfl) (fitB_spec (by kernel_rfl)) (fun listed f h => JS.start listed f h (hS0 listed f h)) ?_ ?_
  · intro i o ho
    have hi : i < 6 := (Array.getElem?_eq_some_iff.1 ho).1
    have hi' : i = 0 ∨ i = 1 ∨ i = 2 ∨ i = 3 ∨ i = 4 ∨ i = 5 := by omega
    clear hi
    rcases hi' with rfl | rfl | rfl | rfl | rfl | rfl
    all_goals (simp only [List.getElem?_toArray, List.getElem?_cons_zero, List.getElem?_cons_succ, Option.some.injEq] at ho; subst ho; intro listed f a w2 hJ hsz hls hun hdep hout hlat; first | (rw [if_pos (by rfl)]; intro K hK) | skip)
    · have q2 := hout 2 (outB_spec (by kernel_rfl))
      exact ld_idb _ B ia HA.out rfl q2 (A0.out.ext hJ.st) (hK _ _ (hJ.next (by rw [hls]; decide) (by rw [hT]; rfl) hJ.st (no_head (by decide))))
    · have q7 := hJ.iq hT (hdep ⟨0, .data⟩ (by simp) rfl) rfl _ rfl _ rfl
      clear hsz hdep hout hlat
      go_simp
      refine (Sm.rof_any ia HA.out w2).mono ?_
      rintro e wq ⟨rfl, xq⟩
      exact hK _ _ (hJ.next (by rw [hls]; decide) (by rw [hT]; rfl) (Ex.trans hJ.st xq) (no_head (by decide)))
    · have q3 := hout 3 (outB_spec (by kernel_rfl))
      exact ld_idb _ (B + 1) ib HB.out rfl q3 (B0.out.ext hJ.st) (hK _ _ (hJ.next (by rw [hls]; decide) (by rw [hT]; rfl) hJ.st (no_head (by decide))))
    · have q9 := hJ.iq hT (hdep ⟨2, .data⟩ (by simp) rfl) rfl _ rfl _ rfl
      clear hsz hdep hout hlat
      go_simp
      refine (Sm.rof_any ib HB.out w2).mono ?_
      rintro e wq ⟨rfl, xq⟩
      exact hK _ _ (hJ.next (by rw [hls]; decide) (by rw [hT]; rfl) (Ex.trans hJ.st xq) (no_head (by decide)))
    · have q8 := hJ.iq hT (hdep ⟨1, .data⟩ (by simp) rfl) rfl _ rfl _ rfl
      clear hsz hdep hout hlat
      go_simp
      exact hK _ _ (hJ.next (by rw [hls]; decide) (by rw [hT]; first | rfl | exact congrArg (Value.int .i64) (by omega) | exact congrArg (Value.int .i64) (by rw [IntKind.wrap_i64]; omega) | exact congrArg Value.bool (decide_eq_false (by omega)) | exact congrArg Value.bool (decide_eq_true (by omega)) | exact congrArg (Value.int .u64) (by omega)) hJ.st (no_head (by decide)))
    have q10 := hJ.iq hT (hdep ⟨3, .data⟩ (by simp) rfl) rfl _ rfl _ rfl
    clear hsz hdep hout hlat
    go_simp
    exact hK _ _ (hJ.next (by rw [hls]; decide) (by rw [hT]; first | rfl | exact congrArg (Value.int .i64) (by omega) | exact congrArg (Value.int .i64) (by rw [IntKind.wrap_i64]; omega) | exact congrArg Value.bool (decide_eq_false (by omega)) | exact congrArg Value.bool (decide_eq_true (by omega)) | exact congrArg (Value.int .u64) (by omega)) hJ.st (no_head (by decide)))
  intro listed f w2 hall hJ
  have f4 : f 4 = .int .i64 (Sm.shV ia) := by
    have h := hJ.vals 4 (hall 4 (by simp))
    rw [hT] at h; exact h
  have f5 : f 5 = .int .i64 (Sm.shV ib) := by
    have h := hJ.vals 5 (hall 5 (by simp))
    rw [hT] at h; exact h
  have hst := hJ.st
  simp only [putAll, Act.put, List.setIfInBounds_toArray, List.set_cons_zero, List.set_cons_succ, Nat.zero_add, Nat.reduceAdd]
  have xx : Ex w1 w2 := hst
  replace A0 := Lib.hid (A0.out.ext xx)
  replace B0 := Lib.hid (B0.out.ext xx)
  replace BW := Lib.hid (Ex.trans BW.out xx)
  clear xx hst hS0
  rw [f4, f5]
  clear f4 f5
  clear hJ hall hT
  go_wp2_with fail
  rcases Int.lt_trichotomy (Sm.shV ib) (Sm.shV ia) with h | h | h
  · have hS0 : ∀ (listed : Array Bool) (f : Nat → Value), (∀ i, listed.getD i false = false) → Ex w2 w2.drew := fun _ _ _ => (Below.refl w2.heap.size w2).drew
    obtain ⟨T, hT⟩ : ∃ T : List (Value → Prop), T = [(fun zz => zz = .int .i64 (Sm.shV ia)), (fun zz => zz = .int .i64 (Sm.shV ib)), (fun zz => zz = .bool true), (fun zz => zz = .bool true), (fun zz => zz = undef), (fun zz => zz = undef), (fun zz => zz = undef), (fun zz => zz = undef), (fun zz => zz = undef), (fun zz => zz = undef), (fun zz => zz = undef), (fun zz => zz = undef), (fun zz => zz = undef), (fun zz => zz = undef), (fun zz => zz = .bool true), (fun zz => zz = .bool true)] := ⟨_, rfl⟩
    refine wp_region_gen (JS T ([] : List (Nat × Nat)) (fun _ _ wq => Ex w2 wq)) (by kernel_rfl) (by kernel_rfl) (by kernel_rfl) (fitB_spec (by kernel_rfl)) (fun listed f h => JS.start listed f h (hS0 listed f h)) ?_ ?_
    · intro i o ho
      have hi : i < 16 := (Array.getElem?_eq_some_iff.1 ho).1
      have hi' : i = 0 ∨ i = 1 ∨ i = 2 ∨ i = 3 ∨ i = 4 ∨ i = 5 ∨ i = 6 ∨ i = 7 ∨ i = 8 ∨ i = 9 ∨ i = 10 ∨ i = 11 ∨ i = 12 ∨ i = 13 ∨ i = 14 ∨ i = 15 := by omega
      clear hi
      rcases hi' with rfl | rfl | rfl | rfl | rfl | rfl | rfl | rfl | rfl | rfl | rfl | rfl | rfl | rfl | rfl | rfl
      all_goals (simp only [List.getElem?_toArray, List.getElem?_cons_zero, List.getElem?_cons_succ, Option.some.injEq] at ho; subst ho; intro listed f a w3 hJ hsz hls hun hdep hout hlat; first | (rw [if_pos (by rfl)]; intro K hK) | skip)
      · have q5 := hout 5 (outB_spec (by kernel_rfl))
        refine wp_mv _ rfl (hK _ _ ?_)
        rw [show a.eval (.tmp 5) = .int .i64 (Sm.shV ia) from q5]
        exact hJ.next (by rw [hls]; decide) (by rw [hT]; rfl) hJ.st (no_head (by decide))
      · have q6 := hout 6 (outB_spec (by kernel_rfl))
        refine wp_mv _ rfl (hK _ _ ?_)
        rw [show a.eval (.tmp 6) = .int .i64 (Sm.shV ib) from q6]
        exact hJ.next (by rw [hls]; decide) (by rw [hT]; rfl) hJ.st (no_head (by decide))
      · have q11 := hJ.iq hT (hdep ⟨0, .data⟩ (by simp) rfl) rfl _ rfl _ rfl
        have q12 := hJ.iq hT (hdep ⟨1, .data⟩ (by simp) rfl) rfl _ rfl _ rfl
        clear hsz hdep hout hlat
        go_simp
        exact hK _ _ (hJ.next (by rw [hls]; decide) (by rw [hT]; first | exact congrArg Value.bool (decide_eq_false (by omega)) | exact congrArg Value.bool (decide_eq_true (by omega)) | rfl) hJ.st (no_head (by decide)))
      · have q13 := hJ.is hT (hdep ⟨2, .data⟩ (by simp) rfl) rfl _ rfl _ rfl
        refine wp_mv _ rfl (hK _ _ ?_)
        rw [show a.eval (.tmp 13) = .bool true from q13]
        exact hJ.next (by rw [hls]; decide) (by rw [hT]; rfl) hJ.st (no_head (by decide))
      · have ddg := hdep ⟨3, .guard⟩ (by simp) rfl
        have kg := ddg.2 _ rfl _ rfl
        have hg := hJ.vals 3 ddg.1
        rw [hT] at hg
        rw [show f 3 = .bool true from hg] at kg
        clear hg ddg
        rw [if_neg (not_wanted rfl rfl rfl kg (by decide))]
        exact hJ.next (by rw [hls]; decide) (by rw [hT]; first | exact trivial | rfl) hJ.st (no_head (by decide))
      · have ddg := hdep ⟨3, .guard⟩ (by simp) rfl
        have kg := ddg.2 _ rfl _ rfl
        have hg := hJ.vals 3 ddg.1
        rw [hT] at hg
        rw [show f 3 = .bool true from hg] at kg
        clear hg ddg
        rw [if_neg (not_wanted rfl rfl rfl kg (by decide))]
        exact hJ.next (by rw [hls]; decide) (by rw [hT]; first | exact trivial | rfl) hJ.st (no_head (by decide))
      · have ddg := hdep ⟨3, .guard⟩ (by simp) rfl
        have kg := ddg.2 _ rfl _ rfl
        have hg := hJ.vals 3 ddg.1
        rw [hT] at hg
        rw [show f 3 = .bool true from hg] at kg
        clear hg ddg
        rw [if_neg (not_wanted rfl rfl rfl kg (by decide))]
        exact hJ.next (by rw [hls]; decide) (by rw [hT]; first | exact trivial | rfl) hJ.st (no_head (by decide))
      · have ddg := hdep ⟨3, .guard⟩ (by simp) rfl
        have kg := ddg.2 _ rfl _ rfl
        have hg := hJ.vals 3 ddg.1
        rw [hT] at hg
        rw [show f 3 = .bool true from hg] at kg
        clear hg ddg
        rw [if_neg (not_wanted rfl rfl rfl kg (by decide))]
        exact hJ.next (by rw [hls]; decide) (by rw [hT]; first | exact trivial | rfl) hJ.st (no_head (by decide))
      · have ddg := hdep ⟨7, .guard⟩ (by simp) rfl
        have kg := ddg.2 _ rfl _ rfl
        have hg := hJ.vals 7 ddg.1
        rw [hT] at hg
        rw [show f 7 = undef from hg] at kg
        clear hg ddg
        rw [if_neg (not_wanted_x rfl rfl rfl kg (by simp [undef]))]
        exact hJ.next (by rw [hls]; decide) (by rw [hT]; first | exact trivial | rfl) hJ.st (no_head (by decide))
      · have ddg := hdep ⟨7, .guard⟩ (by simp) rfl
        have kg := ddg.2 _ rfl _ rfl
        have hg := hJ.vals 7 ddg.1
        rw [hT] at hg
        rw [show f 7 = undef from hg] at kg
        clear hg ddg
        rw [if_neg (not_wanted_x rfl rfl rfl kg (by simp [undef]))]
        exact hJ.next (by rw [hls]; decide) (by rw [hT]; first | exact trivial | rfl) hJ.st (no_head (by decide))
      · have ddg := hdep ⟨7, .guard⟩ (by simp) rfl
        have kg := ddg.2 _ rfl _ rfl
        have hg := hJ.vals 7 ddg.1
        rw [hT] at hg
        rw [show f 7 = undef from hg] at kg
        clear hg ddg
        rw [if_neg (not_wanted_x rfl rfl rfl kg (by simp [undef]))]
        exact hJ.next (by rw [hls]; decide) (by rw [hT]; first | exact trivial | rfl) hJ.st (no_head (by decide))
      · have ddg := hdep ⟨7, .guard⟩ (by simp) rfl
        have kg := ddg.2 _ rfl _ rfl
        have hg := hJ.vals 7 ddg.1
        rw [hT] at hg
        rw [show f 7 = undef from hg] at kg
        clear hg ddg
        rw [if_neg (not_wanted_x rfl rfl rfl kg (by simp [undef]))]
        exact hJ.next (by rw [hls]; decide) (by rw [hT]; first | exact trivial | rfl) hJ.st (no_head (by decide))
      · have ddg := hdep ⟨7, .guard⟩ (by simp) rfl
        have kg := ddg.2 _ rfl _ rfl
        have hg := hJ.vals 7 ddg.1
        rw [hT] at hg
        rw [show f 7 = undef from hg] at kg
        clear hg ddg
        rw [if_neg (not_wanted_x rfl rfl rfl kg (by simp [undef]))]
        exact hJ.next (by rw [hls]; decide) (by rw [hT]; first | exact trivial | rfl) hJ.st (no_head (by decide))
      · have ddg := hdep ⟨3, .guard⟩ (by simp) rfl
        have kg := ddg.2 _ rfl _ rfl
        have hg := hJ.vals 3 ddg.1
        rw [hT] at hg
        rw [show f 3 = .bool true from hg] at kg
        clear hg ddg
        rw [if_neg (not_wanted rfl rfl rfl kg (by decide))]
        exact hJ.next (by rw [hls]; decide) (by rw [hT]; first | exact trivial | rfl) hJ.st (no_head (by decide))
      · have q14 := hJ.iq hT (hdep ⟨3, .data⟩ (by simp) rfl) rfl _ rfl _ rfl
        have q24 := hJ.iq hT (hdep ⟨13, .data⟩ (by simp) rfl) rfl _ rfl _ rfl
        clear hsz hdep hout hlat
        go_simp
        exact hK _ _ (hJ.next (by rw [hls]; decide) (by rw [hT]; first | (with_reducible rfl) | rfl | simp) hJ.st (no_head (by decide)))
      have q25 := hJ.iq hT (hdep ⟨14, .data⟩ (by simp) rfl) rfl _ rfl _ rfl
      clear hsz hdep hout hlat
      go_simp
      exact hK _ _ (hJ.next (by rw [hls]; decide) (by rw [hT]; first | rfl | exact congrArg (Value.int .i64) (by omega) | exact congrArg (Value.int .i64) (by rw [IntKind.wrap_i64]; omega) | exact congrArg Value.bool (decide_eq_false (by omega)) | exact congrArg Value.bool (decide_eq_true (by omega)) | exact congrArg (Value.int .u64) (by omega)) hJ.st (no_head (by decide)))
    intro listed f w3 hall hJ
    have f15 : f 15 = .bool true := by
      have h := hJ.vals 15 (hall 15 (by simp))
      rw [hT] at h; exact h
    have hst := hJ.st
    simp only [putAll, Act.put, List.setIfInBounds_toArray, List.set_cons_zero, List.set_cons_succ, Nat.zero_add, Nat.reduceAdd]
    have xx : Ex w2 w3 := hst
    replace BW := Lib.hid (Ex.trans BW.out xx)
    clear xx hst hS0
    rw [f15]
    clear f15
    clear hJ hall hT
    go_wp2_with fail
    have e : lat ia ib = true := decide_eq_true (Or.inl h)
    go_ret
    exact ⟨congrArg (fun b => Ending.returned (.bool b)) e.symm, BW.out⟩
  · have hS0 : ∀ (listed : Array Bool) (f : Nat → Value), (∀ i, listed.getD i false = false) → Ex w2 w2.drew := fun _ _ _ => (Below.refl w2.heap.size w2).drew
    obtain ⟨T, hT⟩ : ∃ T : List (Value → Prop), T = [(fun zz => zz = .int .i64 (Sm.shV ia)), (fun zz => zz = .int .i64 (Sm.shV ib)), (fun zz => zz = .bool false), (fun zz => zz = .bool false), (fun zz => zz = .int .i64 (Sm.shV ia)), (fun zz => zz = .int .i64 (Sm.shV ib)), (fun zz => zz = .bool true), (fun zz => zz = .bool true), (fun zz => zz = .slice (some ⟨B, 0, none⟩) 4 4), (fun zz => zz = .string (strL ia)), (fun zz => zz = .slice (some ⟨B + 1, 0, none⟩) 4 4), (fun zz => zz = .string (strL ib)), (fun zz => zz = .bool (decide (idn ib < idn ia))), (fun zz => zz = .bool (decide (idn ib < idn ia))), (fun zz => zz = .bool (decide (idn ib < idn ia))), (fun zz => zz = .bool (decide (idn ib < idn ia)))] := ⟨_, rfl⟩
    refine wp_region_gen (JS T ([] : List (Nat × Nat)) (fun _ _ wq => Ex w2 wq)) (by kernel_rfl) (by kernel_rfl) (by kernel_rfl) (fitB_spec (by kernel_rfl)) (fun listed f h => JS.start listed f h (hS0 listed f h)) ?_ ?_
    · intro i o ho
      have hi : i < 16 := (Array.getElem?_eq_some_iff.1 ho).1
      have hi' : i = 0 ∨ i = 1 ∨ i = 2 ∨ i = 3 ∨ i = 4 ∨ i = 5 ∨ i = 6 ∨ i = 7 ∨ i = 8 ∨ i = 9 ∨ i = 10 ∨ i = 11 ∨ i = 12 ∨ i = 13 ∨ i = 14 ∨ i = 15 := by omega
      clear hi
      rcases hi' with rfl | rfl | rfl | rfl | rfl | rfl | rfl | rfl | rfl | rfl | rfl | rfl | rfl | rfl | rfl | rfl
      all_goals (simp only [List.getElem?_toArray, List.getElem?_cons_zero, List.getElem?_cons_succ, Option.some.injEq] at ho; subst ho; intro listed f a w3 hJ hsz hls hun hdep hout hlat; first | (rw [if_pos (by rfl)]; intro K hK) | skip)
      · have q5 := hout 5 (outB_spec (by kernel_rfl))
        refine wp_mv _ rfl (hK _ _ ?_)
        rw [show a.eval (.tmp 5) = .int .i64 (Sm.shV ia) from q5]
        exact hJ.next (by rw [hls]; decide) (by rw [hT]; rfl) hJ.st (no_head (by decide))
      · have q6 := hout 6 (outB_spec (by kernel_rfl))
        refine wp_mv _ rfl (hK _ _ ?_)
        rw [show a.eval (.tmp 6) = .int .i64 (Sm.shV ib) from q6]
        exact hJ.next (by rw [hls]; decide) (by rw [hT]; rfl) hJ.st (no_head (by decide))
      · have q11 := hJ.iq hT (hdep ⟨0, .data⟩ (by simp) rfl) rfl _ rfl _ rfl
        have q12 := hJ.iq hT (hdep ⟨1, .data⟩ (by simp) rfl) rfl _ rfl _ rfl
        clear hsz hdep hout hlat
        go_simp
        exact hK _ _ (hJ.next (by rw [hls]; decide) (by rw [hT]; first | exact congrArg Value.bool (decide_eq_false (by omega)) | exact congrArg Value.bool (decide_eq_true (by omega)) | rfl) hJ.st (no_head (by decide)))
      · have q13 := hJ.is hT (hdep ⟨2, .data⟩ (by simp) rfl) rfl _ rfl _ rfl
        refine wp_mv _ rfl (hK _ _ ?_)
        rw [show a.eval (.tmp 13) = .bool false from q13]
        exact hJ.next (by rw [hls]; decide) (by rw [hT]; rfl) hJ.st (no_head (by decide))
      · have ddg := hdep ⟨3, .guard⟩ (by simp) rfl
        have kg := ddg.2 _ rfl _ rfl
        have hg := hJ.vals 3 ddg.1
        rw [hT] at hg
        rw [show f 3 = .bool false from hg] at kg
        clear hg ddg
        rw [if_pos (wanted_of rfl rfl rfl kg)]
        clear kg
        intro K hK
        have q5 := hout 5 (outB_spec (by kernel_rfl))
        refine wp_mv _ rfl (hK _ _ ?_)
        rw [show a.eval (.tmp 5) = .int .i64 (Sm.shV ia) from q5]
        exact hJ.next (by rw [hls]; decide) (by rw [hT]; rfl) hJ.st (no_head (by decide))
      · have ddg := hdep ⟨3, .guard⟩ (by simp) rfl
        have kg := ddg.2 _ rfl _ rfl
        have hg := hJ.vals 3 ddg.1
        rw [hT] at hg
        rw [show f 3 = .bool false from hg] at kg
        clear hg ddg
        rw [if_pos (wanted_of rfl rfl rfl kg)]
        clear kg
        intro K hK
        have q6 := hout 6 (outB_spec (by kernel_rfl))
        refine wp_mv _ rfl (hK _ _ ?_)
        rw [show a.eval (.tmp 6) = .int .i64 (Sm.shV ib) from q6]
        exact hJ.next (by rw [hls]; decide) (by rw [hT]; rfl) hJ.st (no_head (by decide))
      · have ddg := hdep ⟨3, .guard⟩ (by simp) rfl
        have kg := ddg.2 _ rfl _ rfl
        have hg := hJ.vals 3 ddg.1
        rw [hT] at hg
        rw [show f 3 = .bool false from hg] at kg
        clear hg ddg
        rw [if_pos (wanted_of rfl rfl rfl kg)]
        clear kg
        intro K hK
        have q15 := hJ.iq hT (hdep ⟨4, .data⟩ (by simp) rfl) rfl _ rfl _ rfl
        have q16 := hJ.iq hT (hdep ⟨5, .data⟩ (by simp) rfl) rfl _ rfl _ rfl
        clear hsz hdep hout hlat
        go_simp
        exact hK _ _ (hJ.next (by rw [hls]; decide) (by rw [hT]; first | exact congrArg Value.bool (decide_eq_false (by omega)) | exact congrArg Value.bool (decide_eq_true (by omega)) | rfl) hJ.st (no_head (by decide)))
      · have ddg := hdep ⟨3, .guard⟩ (by simp) rfl
        have kg := ddg.2 _ rfl _ rfl
        have hg := hJ.vals 3 ddg.1
        rw [hT] at hg
        rw [show f 3 = .bool false from hg] at kg
        clear hg ddg
        rw [if_pos (wanted_of rfl rfl rfl kg)]
        clear kg
        intro K hK
        have q17 := hJ.is hT (hdep ⟨6, .data⟩ (by simp) rfl) rfl _ rfl _ rfl
        refine wp_mv _ rfl (hK _ _ ?_)
        rw [show a.eval (.tmp 17) = .bool true from q17]
        exact hJ.next (by rw [hls]; decide) (by rw [hT]; rfl) hJ.st (no_head (by decide))
      · have ddg := hdep ⟨7, .guard⟩ (by simp) rfl
        have kg := ddg.2 _ rfl _ rfl
        have hg := hJ.vals 7 ddg.1
        rw [hT] at hg
        rw [show f 7 = .bool true from hg] at kg
        clear hg ddg
        rw [if_pos (wanted_of rfl rfl rfl kg)]
        clear kg
        intro K hK
        have q2 := hout 2 (outB_spec (by kernel_rfl))
        rw [Array.getD_eq_getD_getElem?] at q2
        clear hsz hdep hout hlat
        go_simp
        exact hK _ _ (hJ.next (by rw [hls]; decide) (by rw [hT]; rfl) hJ.st (no_head (by decide)))
      · have ddg := hdep ⟨7, .guard⟩ (by simp) rfl
        have kg := ddg.2 _ rfl _ rfl
        have hg := hJ.vals 7 ddg.1
        rw [hT] at hg
        rw [show f 7 = .bool true from hg] at kg
        clear hg ddg
        rw [if_pos (wanted_of rfl rfl rfl kg)]
        clear kg
        intro K hK
        have q19 := hJ.iq hT (hdep ⟨8, .data⟩ (by simp) rfl) rfl _ rfl _ rfl
        have hcv := pt_conv _ w3 (id_pt9 HA.out (A0.out.ext hJ.st))
        rw [HA.out] at hcv
        clear hsz hdep hout hlat
        go_simp
        exact hK _ _ (hJ.next (by rw [hls]; decide) (by rw [hT]; rfl) hJ.st (no_head (by decide)))
      · have ddg := hdep ⟨7, .guard⟩ (by simp) rfl
        have kg := ddg.2 _ rfl _ rfl
        have hg := hJ.vals 7 ddg.1
        rw [hT] at hg
        rw [show f 7 = .bool true from hg] at kg
        clear hg ddg
        rw [if_pos (wanted_of rfl rfl rfl kg)]
        clear kg
        intro K hK
        have q3 := hout 3 (outB_spec (by kernel_rfl))
        rw [Array.getD_eq_getD_getElem?] at q3
        clear hsz hdep hout hlat
        go_simp
        exact hK _ _ (hJ.next (by rw [hls]; decide) (by rw [hT]; rfl) hJ.st (no_head (by decide)))
      · have ddg := hdep ⟨7, .guard⟩ (by simp) rfl
        have kg := ddg.2 _ rfl _ rfl
        have hg := hJ.vals 7 ddg.1
        rw [hT] at hg
        rw [show f 7 = .bool true from hg] at kg
        clear hg ddg
        rw [if_pos (wanted_of rfl rfl rfl kg)]
        clear kg
        intro K hK
        have q21 := hJ.iq hT (hdep ⟨10, .data⟩ (by simp) rfl) rfl _ rfl _ rfl
        have hcv := pt_conv _ w3 (id_pt9 HB.out (B0.out.ext hJ.st))
        rw [HB.out] at hcv
        clear hsz hdep hout hlat
        go_simp
        exact hK _ _ (hJ.next (by rw [hls]; decide) (by rw [hT]; rfl) hJ.st (no_head (by decide)))
      · have ddg := hdep ⟨7, .guard⟩ (by simp) rfl
        have kg := ddg.2 _ rfl _ rfl
        have hg := hJ.vals 7 ddg.1
        rw [hT] at hg
        rw [show f 7 = .bool true from hg] at kg
        clear hg ddg
        rw [if_pos (wanted_of rfl rfl rfl kg)]
        clear kg
        intro K hK
        have q20 := hJ.iq hT (hdep ⟨9, .data⟩ (by simp) rfl) rfl _ rfl _ rfl
        have q22 := hJ.iq hT (hdep ⟨11, .data⟩ (by simp) rfl) rfl _ rfl _ rfl
        have hless := less_str HB.out HA.out
        clear hsz hdep hout hlat
        go_simp
        exact hK _ _ (hJ.next (by rw [hls]; decide) (by rw [hT]; exact congrArg Value.bool (by rw [less_str HA.out HB.out, beq_str HA.out HB.out]; exact gt_nat _ _)) hJ.st (no_head (by decide)))
      · have ddg := hdep ⟨3, .guard⟩ (by simp) rfl
        have kg := ddg.2 _ rfl _ rfl
        have hg := hJ.vals 3 ddg.1
        rw [hT] at hg
        rw [show f 3 = .bool false from hg] at kg
        clear hg ddg
        rw [if_pos (wanted_of rfl rfl rfl kg)]
        clear kg
        intro K hK
        have q18 := hJ.iq hT (hdep ⟨7, .data⟩ (by simp) rfl) rfl _ rfl _ rfl
        have q23 := hJ.iq hT (hdep ⟨12, .data⟩ (by simp) rfl) rfl _ rfl _ rfl
        clear hsz hdep hout hlat
        go_simp
        exact hK _ _ (hJ.next (by rw [hls]; decide) (by rw [hT]; first | (with_reducible rfl) | rfl | simp) hJ.st (no_head (by decide)))
      · have q14 := hJ.iq hT (hdep ⟨3, .data⟩ (by simp) rfl) rfl _ rfl _ rfl
        have q24 := hJ.iq hT (hdep ⟨13, .data⟩ (by simp) rfl) rfl _ rfl _ rfl
        clear hsz hdep hout hlat
        go_simp
        exact hK _ _ (hJ.next (by rw [hls]; decide) (by rw [hT]; first | (with_reducible rfl) | rfl | simp) hJ.st (no_head (by decide)))
      have q25 := hJ.iq hT (hdep ⟨14, .data⟩ (by simp) rfl) rfl _ rfl _ rfl
      clear hsz hdep hout hlat
      go_simp
      exact hK _ _ (hJ.next (by rw [hls]; decide) (by rw [hT]; first | rfl | exact congrArg (Value.int .i64) (by omega) | exact congrArg (Value.int .i64) (by rw [IntKind.wrap_i64]; omega) | exact congrArg Value.bool (decide_eq_false (by omega)) | exact congrArg Value.bool (decide_eq_true (by omega)) | exact congrArg (Value.int .u64) (by omega)) hJ.st (no_head (by decide)))
    intro listed f w3 hall hJ
    have f15 : f 15 = .bool (decide (idn ib < idn ia)) := by
      have h := hJ.vals 15 (hall 15 (by simp))
      rw [hT] at h; exact h
    have hst := hJ.st
    simp only [putAll, Act.put, List.setIfInBounds_toArray, List.set_cons_zero, List.set_cons_succ, Nat.zero_add, Nat.reduceAdd]
    have xx : Ex w2 w3 := hst
    replace BW := Lib.hid (Ex.trans BW.out xx)
    clear xx hst hS0
    rw [f15]
    clear f15
    clear hJ hall hT
    go_wp2_with fail
    have e : lat ia ib = decide (idn ib < idn ia) := by
      unfold lat
      by_cases hd : idn ib < idn ia
      · rw [decide_eq_true hd, decide_eq_true (Or.inr ⟨h.symm, hd⟩)]
      rw [decide_eq_false hd, decide_eq_false (fun e => by omega)]
    go_ret
    exact ⟨congrArg (fun b => Ending.returned (.bool b)) e.symm, BW.out⟩
  have hS0 : ∀ (listed : Array Bool) (f : Nat → Value), (∀ i, listed.getD i false = false) → Ex w2 w2.drew := fun _ _ _ => (Below.refl w2.heap.size w2).drew
  obtain ⟨T, hT⟩ : ∃ T : List (Value → Prop), T = [(fun zz => zz = .int .i64 (Sm.shV ia)), (fun zz => zz = .int .i64 (Sm.shV ib)), (fun zz => zz = .bool false), (fun zz => zz = .bool false), (fun zz => zz = .int .i64 (Sm.shV ia)), (fun zz => zz = .int .i64 (Sm.shV ib)), (fun zz => zz = .bool false), (fun zz => zz = .bool false), (fun zz => zz = undef), (fun zz => zz = undef), (fun zz => zz = undef), (fun zz => zz = undef), (fun zz => zz = undef), (fun zz => zz = .bool false), (fun zz => zz = .bool false), (fun zz => zz = .bool false)] := ⟨_, rfl⟩
  refine wp_region_gen (JS T ([] : List (Nat × Nat)) (fun _ _ wq => Ex w2 wq)) (by kernel_rfl) (by kernel_rfl) (by kernel_rfl) (fitB_spec (by kernel_rfl)) (fun listed f h => JS.start listed f h (hS0 listed f h)) ?_ ?_
  · intro i o ho
    have hi : i < 16 := (Array.getElem?_eq_some_iff.1 ho).1
    have hi' : i = 0 ∨ i = 1 ∨ i = 2 ∨ i = 3 ∨ i = 4 ∨ i = 5 ∨ i = 6 ∨ i = 7 ∨ i = 8 ∨ i = 9 ∨ i = 10 ∨ i = 11 ∨ i = 12 ∨ i = 13 ∨ i = 14 ∨ i = 15 := by omega
    clear hi
    rcases hi' with rfl | rfl | rfl | rfl | rfl | rfl | rfl | rfl | rfl | rfl | rfl | rfl | rfl | rfl | rfl | rfl
    all_goals (simp only [List.getElem?_toArray, List.getElem?_cons_zero, List.getElem?_cons_succ, Option.some.injEq] at ho; subst ho; intro listed f a w3 hJ hsz hls hun hdep hout hlat; first | (rw [if_pos (by rfl)]; intro K hK) | skip)
    · have q5 := hout 5 (outB_spec (by kernel_rfl))
      refine wp_mv _ rfl (hK _ _ ?_)
      rw [show a.eval (.tmp 5) = .int .i64 (Sm.shV ia) from q5]
      exact hJ.next (by rw [hls]; decide) (by rw [hT]; rfl) hJ.st (no_head (by decide))
    · have q6 := hout 6 (outB_spec (by kernel_rfl))
      refine wp_mv _ rfl (hK _ _ ?_)
      rw [show a.eval (.tmp 6) = .int .i64 (Sm.shV ib) from q6]
      exact hJ.next (by rw [hls]; decide) (by rw [hT]; rfl) hJ.st (no_head (by decide))
    · have q11 := hJ.iq hT (hdep ⟨0, .data⟩ (by simp) rfl) rfl _ rfl _ rfl
      have q12 := hJ.iq hT (hdep ⟨1, .data⟩ (by simp) rfl) rfl _ rfl _ rfl
      clear hsz hdep hout hlat
      go_simp
      exact hK _ _ (hJ.next (by rw [hls]; decide) (by rw [hT]; first | exact congrArg Value.bool (decide_eq_false (by omega)) | exact congrArg Value.bool (decide_eq_true (by omega)) | rfl) hJ.st (no_head (by decide)))
    · have q13 := hJ.is hT (hdep ⟨2, .data⟩ (by simp) rfl) rfl _ rfl _ rfl
      refine wp_mv _ rfl (hK _ _ ?_)
      rw [show a.eval (.tmp 13) = .bool false from q13]
      exact hJ.next (by rw [hls]; decide) (by rw [hT]; rfl) hJ.st (no_head (by decide))
    · have ddg := hdep ⟨3, .guard⟩ (by simp) rfl
      have kg := ddg.2 _ rfl _ rfl
      have hg := hJ.vals 3 ddg.1
      rw [hT] at hg
      rw [show f 3 = .bool false from hg] at kg
      clear hg ddg
      rw [if_pos (wanted_of rfl rfl rfl kg)]
      clear kg
      intro K hK
      have q5 := hout 5 (outB_spec (by kernel_rfl))
      refine wp_mv _ rfl (hK _ _ ?_)
      rw [show a.eval (.tmp 5) = .int .i64 (Sm.shV ia) from q5]
      exact hJ.next (by rw [hls]; decide) (by rw [hT]; rfl) hJ.st (no_head (by decide))
    · have ddg := hdep ⟨3, .guard⟩ (by simp) rfl
      have kg := ddg.2 _ rfl _ rfl
      have hg := hJ.vals 3 ddg.1
      rw [hT] at hg
      rw [show f 3 = .bool false from hg] at kg
      clear hg ddg
      rw [if_pos (wanted_of rfl rfl rfl kg)]
      clear kg
      intro K hK
      have q6 := hout 6 (outB_spec (by kernel_rfl))
      refine wp_mv _ rfl (hK _ _ ?_)
      rw [show a.eval (.tmp 6) = .int .i64 (Sm.shV ib) from q6]
      exact hJ.next (by rw [hls]; decide) (by rw [hT]; rfl) hJ.st (no_head (by decide))
    · have ddg := hdep ⟨3, .guard⟩ (by simp) rfl
      have kg := ddg.2 _ rfl _ rfl
      have hg := hJ.vals 3 ddg.1
      rw [hT] at hg
      rw [show f 3 = .bool false from hg] at kg
      clear hg ddg
      rw [if_pos (wanted_of rfl rfl rfl kg)]
      clear kg
      intro K hK
      have q15 := hJ.iq hT (hdep ⟨4, .data⟩ (by simp) rfl) rfl _ rfl _ rfl
      have q16 := hJ.iq hT (hdep ⟨5, .data⟩ (by simp) rfl) rfl _ rfl _ rfl
      clear hsz hdep hout hlat
      go_simp
      exact hK _ _ (hJ.next (by rw [hls]; decide) (by rw [hT]; first | exact congrArg Value.bool (decide_eq_false (by omega)) | exact congrArg Value.bool (decide_eq_true (by omega)) | rfl) hJ.st (no_head (by decide)))
    · have ddg := hdep ⟨3, .guard⟩ (by simp) rfl
      have kg := ddg.2 _ rfl _ rfl
      have hg := hJ.vals 3 ddg.1
      rw [hT] at hg
      rw [show f 3 = .bool false from hg] at kg
      clear hg ddg
      rw [if_pos (wanted_of rfl rfl rfl kg)]
      clear kg
      intro K hK
      have q17 := hJ.is hT (hdep ⟨6, .data⟩ (by simp) rfl) rfl _ rfl _ rfl
      refine wp_mv _ rfl (hK _ _ ?_)
      rw [show a.eval (.tmp 17) = .bool false from q17]
      exact hJ.next (by rw [hls]; decide) (by rw [hT]; rfl) hJ.st (no_head (by decide))
    · have ddg := hdep ⟨7, .guard⟩ (by simp) rfl
      have kg := ddg.2 _ rfl _ rfl
      have hg := hJ.vals 7 ddg.1
      rw [hT] at hg
      rw [show f 7 = .bool false from hg] at kg
      clear hg ddg
      rw [if_neg (not_wanted rfl rfl rfl kg (by decide))]
      exact hJ.next (by rw [hls]; decide) (by rw [hT]; first | exact trivial | rfl) hJ.st (no_head (by decide))
    · have ddg := hdep ⟨7, .guard⟩ (by simp) rfl
      have kg := ddg.2 _ rfl _ rfl
      have hg := hJ.vals 7 ddg.1
      rw [hT] at hg
      rw [show f 7 = .bool false from hg] at kg
      clear hg ddg
      rw [if_neg (not_wanted rfl rfl rfl kg (by decide))]
      exact hJ.next (by rw [hls]; decide) (by rw [hT]; first | exact trivial | rfl) hJ.st (no_head (by decide))
    · have ddg := hdep ⟨7, .guard⟩ (by simp) rfl
      have kg := ddg.2 _ rfl _ rfl
      have hg := hJ.vals 7 ddg.1
      rw [hT] at hg
      rw [show f 7 = .bool false from hg] at kg
      clear hg ddg
      rw [if_neg (not_wanted rfl rfl rfl kg (by decide))]
      exact hJ.next (by rw [hls]; decide) (by rw [hT]; first | exact trivial | rfl) hJ.st (no_head (by decide))
    · have ddg := hdep ⟨7, .guard⟩ (by simp) rfl
      have kg := ddg.2 _ rfl _ rfl
      have hg := hJ.vals 7 ddg.1
      rw [hT] at hg
      rw [show f 7 = .bool false from hg] at kg
      clear hg ddg
      rw [if_neg (not_wanted rfl rfl rfl kg (by decide))]
      exact hJ.next (by rw [hls]; decide) (by rw [hT]; first | exact trivial | rfl) hJ.st (no_head (by decide))
    · have ddg := hdep ⟨7, .guard⟩ (by simp) rfl
      have kg := ddg.2 _ rfl _ rfl
      have hg := hJ.vals 7 ddg.1
      rw [hT] at hg
      rw [show f 7 = .bool false from hg] at kg
      clear hg ddg
      rw [if_neg (not_wanted rfl rfl rfl kg (by decide))]
      exact hJ.next (by rw [hls]; decide) (by rw [hT]; first | exact trivial | rfl) hJ.st (no_head (by decide))
    · have ddg := hdep ⟨3, .guard⟩ (by simp) rfl
      have kg := ddg.2 _ rfl _ rfl
      have hg := hJ.vals 3 ddg.1
      rw [hT] at hg
      rw [show f 3 = .bool false from hg] at kg
      clear hg ddg
      rw [if_pos (wanted_of rfl rfl rfl kg)]
      clear kg
      intro K hK
      have q18 := hJ.iq hT (hdep ⟨7, .data⟩ (by simp) rfl) rfl _ rfl _ rfl
      have q23 := hJ.iq hT (hdep ⟨12, .data⟩ (by simp) rfl) rfl _ rfl _ rfl
      clear hsz hdep hout hlat
      go_simp
      exact hK _ _ (hJ.next (by rw [hls]; decide) (by rw [hT]; first | (with_reducible rfl) | rfl | simp) hJ.st (no_head (by decide)))
    · have q14 := hJ.iq hT (hdep ⟨3, .data⟩ (by simp) rfl) rfl _ rfl _ rfl
      have q24 := hJ.iq hT (hdep ⟨13, .data⟩ (by simp) rfl) rfl _ rfl _ rfl
      clear hsz hdep hout hlat
      go_simp
      exact hK _ _ (hJ.next (by rw [hls]; decide) (by rw [hT]; first | (with_reducible rfl) | rfl | simp) hJ.st (no_head (by decide)))
    have q25 := hJ.iq hT (hdep ⟨14, .data⟩ (by simp) rfl) rfl _ rfl _ rfl
    clear hsz hdep hout hlat
    go_simp
    exact hK _ _ (hJ.next (by rw [hls]; decide) (by rw [hT]; first | rfl | exact congrArg (Value.int .i64) (by omega) | exact congrArg (Value.int .i64) (by rw [IntKind.wrap_i64]; omega) | exact congrArg Value.bool (decide_eq_false (by omega)) | exact congrArg Value.bool (decide_eq_true (by omega)) | exact congrArg (Value.int .u64) (by omega)) hJ.st (no_head (by decide)))
  intro listed f w3 hall hJ
  have f15 : f 15 = .bool false := by
    have h := hJ.vals 15 (hall 15 (by simp))
    rw [hT] at h; exact h
  have hst := hJ.st
  simp only [putAll, Act.put, List.setIfInBounds_toArray, List.set_cons_zero, List.set_cons_succ, Nat.zero_add, Nat.reduceAdd]
  have xx : Ex w2 w3 := hst
  replace BW := Lib.hid (Ex.trans BW.out xx)
  clear xx hst hS0
  rw [f15]
  clear f15
  clear hJ hall hT
  go_wp2_with fail
  have e : lat ia ib = false := decide_eq_false (fun e => by omega)
  go_ret
  exact ⟨congrArg (fun b => Ending.returned (.bool b)) e.symm, BW.out⟩
end Go.Proofs.Ytmjfnpmnhehnkaa
