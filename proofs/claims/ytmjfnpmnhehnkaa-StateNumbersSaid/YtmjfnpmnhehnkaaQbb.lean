/- Rp -/
import Derived.Test.YtmjfnpmnhehnkaaQba
set_option maxRecDepth 100000
set_option maxHeartbeats 16000000
namespace Go.Proofs.Ytmjfnpmnhehnkaa
open Go.RowKit
theorem less_step (a p A B M : Nat) (hA : A < M) (hB : B < M) : (decide (a < p) || (decide (a = p) && decide (A < B))) = decide (a * M + A < p * M + B) := by
 rcases Nat.lt_trichotomy a p with h | h | h
 ·have h1 : (a + 1) * M ≤ p * M := Nat.mul_le_mul_right _ h
  rw [Nat.add_mul, Nat.one_mul] at h1
  rw [decide_eq_true h, decide_eq_true (by omega : a * M + A < p * M + B)]; rfl
 ·subst h
  simp
 have h1 : (p + 1) * M ≤ a * M := Nat.mul_le_mul_right _ h
 rw [Nat.add_mul, Nat.one_mul] at h1
 rw [decide_eq_false (by omega : ¬ a < p), decide_eq_false (by omega : ¬ a = p), decide_eq_false (by omega : ¬ a * M + A < p * M + B)]; rfl
theorem less_idn {x y : List UInt8} (hx : x.length = 4) (hy : y.length = 4) : Op.bytesLess x y = decide (idn x < idn y) := by
 obtain ⟨a, b, c, d, rfl⟩ := len4 hx
 obtain ⟨p, q, r, s, rfl⟩ := len4 hy
 have ha := a.toNat_lt; have hb := b.toNat_lt; have hc := c.toNat_lt; have hd := d.toNat_lt
 have hp := p.toNat_lt; have hq := q.toNat_lt; have hr := r.toNat_lt; have hs := s.toNat_lt
 have u : ∀ (a p : UInt8) (A B : List UInt8), Op.bytesLess (a :: A) (p :: B) = (decide (a.toNat < p.toNat) || (decide (a.toNat = p.toNat) && Op.bytesLess A B)) := fun a p A B => by
  rw [Op.bytesLess]
  congr 1
  congr 1
  by_cases h : a = p
  ·subst h; simp
  ·have : ¬ a.toNat = p.toNat := fun e => h (UInt8.toNat_inj.1 e)
   rw [decide_eq_false this]; simpa using h
 have e0 : Op.bytesLess [d] [s] = decide (d.toNat < s.toNat) := by
  rw [u, show Op.bytesLess [] [] = false from rfl, Bool.and_false, Bool.or_false]
 rw [u, u, u, e0, less_step c.toNat r.toNat d.toNat s.toNat 256 hd hs, less_step b.toNat q.toNat (c.toNat * 256 + d.toNat) (r.toNat * 256 + s.toNat) 65536 (by omega) (by omega), less_step a.toNat p.toNat (b.toNat * 65536 + (c.toNat * 256 + d.toNat)) (q.toNat * 65536 + (r.toNat * 256 + s.toNat)) 16777216 (by omega) (by omega)]
 unfold idn
 simp only [Nat.add_assoc]
theorem less_str {x y : List UInt8} (hx : x.length = 4) (hy : y.length = 4) : Op.bytesLess (strL x).toList (strL y).toList = decide (idn x < idn y) := by
 rw [ByteArray.toList_eq, ByteArray.toList_eq]
 exact less_idn hx hy
theorem beq_str {x y : List UInt8} (hx : x.length = 4) (hy : y.length = 4) : ((strL x).toList == (strL y).toList) = decide (idn x = idn y) := by
 rw [strL_beq]
 congr 1
 exact propext ⟨fun h => by rw [h], idn_inj hx hy⟩
theorem id_ptr {w : World} {g off : Nat} {x : Vt} (hx : x.Ok) (h : w.rangeAt g off x.C) (hg : g < w.heap.size) : (Pt.mk (some ⟨g, off, none⟩) 4 x.id).In w w.heap.size :=
 ⟨by show x.id.length ≤ 4; rw [hx.idN]; exact Nat.le_refl _, (fun h => by cases h), fun _ => ⟨g, off, rfl, hg, fun i hi => by
  have hi' : i < x.id.length := hi
  have hb := byteCells_get x.id i hi'
  have hc : x.C[i]? = (Lib.byteCells x.id)[i]? := by
   unfold Vt.C
   simp only [List.append_assoc]
   rw [List.getElem?_append_left (by rw [byteCells_len]; exact hi')]
  rw [h i _ (hc.trans hb)]
  simp [List.getD, hi']⟩⟩
theorem conv_id {w : World} {g off : Nat} {x : Vt} (hx : x.Ok) (h : w.rangeAt g off x.C) (hg : g < w.heap.size) : (convert 25 9 (.slice (some ⟨g, off, none⟩) 4 4)).run Try.prog w = .ok (.string (strL x.id)) w := by
 have := pt_conv _ w (id_ptr hx h hg)
 rw [hx.idN] at this
 exact this
theorem range_ex {w w' : World} {g off : Nat} {C : List Value} (h : w.rangeAt g off C) (k : Ex w w') (hg : g < w.heap.size) : w'.rangeAt g off C := fun j u hu => (Below.cell (p := ⟨g, off + j, none⟩) k hg).trans (h j u hu)
def RisePost (xs : List Vt) (w : World) (e : Ending) (w' : World) : Prop := ∃ q : Bool, e = .returned (.bool q) ∧ (q = true ↔ Rising xs) ∧ Ex w w'
theorem rising_any (ad : Option Addr) (cap : Nat) (xs : List Vt) (hcap : cap ≤ 9223372036854775807) (w : World) (hin : Vp.In ad cap xs w) (hvi : ∀ (i : Nat) (x : Vt), xs[i]? = some x → VI w x) : Calls Try.prog 118 #[.slice ad xs.length cap] w (RisePost xs w) := by
 have HIN := Hi hin
 have HVI := Hi hvi
 obtain ⟨n, hn⟩ : ∃ n, n = xs.length := ⟨_, rfl⟩
 have HN := Hi hn
 have hnb : n ≤ 9223372036854775807 := by rw [hn]; exact Nat.le_trans hin.len hcap
 obtain ⟨q, hq⟩ : ∃ q : Bool, (q = true ↔ Rising xs) := by
  by_cases h : Rising xs
  ·exact ⟨true, by simp [h]⟩
  ·exact ⟨false, by simp [h]⟩
 have HQ := Hi hq
 rw [← hn]
 clear hn hin hvi hcap hq
 by_cases h4 : n ≤ 4
 rotate_left
 ·have h4i : (4 : Int) < (n : Int) := by omega
  have hqf : q = false := by
   cases hqq : q with
   | false => rfl
   | true => exact absurd (HQ.out.1 hqq).1 (by rw [← HN.out]; exact h4)
  have HQF := Hi hqf
  clear hqf
  go_enter Try.func118, Try.ntmps118
  go_wp2_with fail
  go_ret
  exact ⟨q, by rw [HQF.out]; rfl, HQ.out, Ex.refl _⟩
 have h4i : ¬ (4 : Int) < (n : Int) := by omega
 go_enter Try.func118, Try.ntmps118
 go_wp2_with (first | ((with_reducible refine so4 [36, 1000+36, 32, 1000+32, 4000+36] ?_ ?_); (focus rfl)) | (with_reducible refine stop_bs (t := 37) ?_) | (with_reducible refine stop_app ?_))
 go_loopw [3] (fun i wr => ∃ k : Nat, k ≤ n ∧ i = .int .i64 k ∧ Hid (∀ j, j < k → ∃ x, xs[j]? = some x ∧ x.ct.right = true ∧ ∀ i, j = i + 1 → idF xs i < idF xs j) ∧ Hid (Ex w wr)) (fun i _ => n - (intOf i).toNat)
 case atStart => exact ⟨0, by omega, rfl, Hi (fun j hj => absurd hj (Nat.not_lt_zero j)), Hi (Ex.refl _)⟩
 obtain ⟨k, hk, rfl, HG, BW⟩ := hrel
 by_cases hlt : k < n
 rotate_left
 ·obtain rfl : k = n := by omega
  have q1 : ¬ (k : Int) < (k : Int) := by omega
  have hqt : q = true := HQ.out.2 ⟨by rw [← HN.out]; exact h4, fun i x hx => by
   have hi := (List.getElem?_eq_some_iff.1 hx).1
   obtain ⟨z, hz, h1, _⟩ := HG.out i (by rw [HN.out]; exact hi)
   rw [hx] at hz; cases hz; exact h1, fun i hi => by
   obtain ⟨z, hz, _, h1⟩ := HG.out (i + 1) (by rw [HN.out]; exact hi)
   exact h1 i rfl⟩
  have HQT := Hi hqt
  clear hqt
  go_wp2_with fail
  go_ret
  exact ⟨q, by rw [HQT.out]; rfl, HQ.out, BW.out⟩
 have q0 : (0 : Int) ≤ (k : Int) := by omega
 have q1 : (k : Int) < (n : Int) := by omega
 obtain ⟨x, hx⟩ : ∃ x, xs[k]? = some x := ⟨_, List.getElem?_eq_getElem (by rw [← HN.out]; omega)⟩
 obtain ⟨ab, o, rfl, hab2, hra⟩ := (HIN.out.ext BW.out).read (by rw [← HN.out]; omega)
 have XR := Hi (hra k x hx)
 have XV := Hi (HVI.out k x hx)
 have HXK := Hi hx
 have HRA := Hi hra
 have HAB := Hi hab2
 clear hra hab2 hx
 obtain ⟨br, hbr⟩ : ∃ b, b = x.ct.right := ⟨_, rfl⟩
 have HBR := Hi hbr
 clear hbr
 go_wp2_with (first | ((with_reducible refine so4 [36, 1000+36, 32, 1000+32, 4000+36] ?_ ?_); (focus rfl)) | (with_reducible refine stop_bs (t := 37) ?_) | (with_reducible refine stop_app ?_))
 cases br
 ·skip
  obtain ⟨T, hT⟩ : ∃ T : List (Rw wr.heap.size), T = [.is (.slice (some ⟨ab, o, none⟩) n cap), .is (.int .i64 k), .is (.pointer (some ⟨ab, o + k * 42, none⟩)), .is (x.V), .is (.bool false), .is (.bool true), .is (.bool true), .is (undef), .is (undef), .is (undef), .is (undef), .is (undef), .is (undef), .is (undef), .is (undef), .is (undef), .is (undef), .is (undef), .is (undef), .is (undef), .is (undef), .is (undef), .is (undef), .is (undef), .is (undef), .is (.bool true)] := ⟨_, rfl⟩
  have HTY : T.map Rw.tys = ([[], [], [], [], [], [], [], [], [], [], [], [], [], [], [], [], [], [], [], [], [], [], [], [], [], []] : List (List Nat)) := by rw [hT]; rfl
  refine wp_region_gen (JW wr.heap.size wr [0] T ([[], [], [], [], [], [], [], [], [], [], [], [], [], [], [], [], [], [], [], [], [], [], [], [], [], []] : List (List Nat)) ([none, none, none, none, none, none, none, none, none, none, none, none, none, none, none, none, none, none, none, none, none, none, none, none, none, none] : List (Option Nat)) ([] : List (Nat × Nat)) 100000) (by kernel_rfl) (by kernel_rfl) (by kernel_rfl) (fitB_spec (by kernel_rfl)) (fun listed f h => JW.start (Nat.le_refl _) listed f h) ?_ ?_
  ·intro i o ho
   have hi : i < 26 := (Array.getElem?_eq_some_iff.1 ho).1
   have hi' : i = 0 ∨ i = 1 ∨ i = 2 ∨ i = 3 ∨ i = 4 ∨ i = 5 ∨ i = 6 ∨ i = 7 ∨ i = 8 ∨ i = 9 ∨ i = 10 ∨ i = 11 ∨ i = 12 ∨ i = 13 ∨ i = 14 ∨ i = 15 ∨ i = 16 ∨ i = 17 ∨ i = 18 ∨ i = 19 ∨ i = 20 ∨ i = 21 ∨ i = 22 ∨ i = 23 ∨ i = 24 ∨ i = 25 := by omega
   clear hi
   rcases hi' with rfl | rfl | rfl | rfl | rfl | rfl | rfl | rfl | rfl | rfl | rfl | rfl | rfl | rfl | rfl | rfl | rfl | rfl | rfl | rfl | rfl | rfl | rfl | rfl | rfl | rfl
   all_goals (simp only [List.getElem?_toArray, List.getElem?_cons_zero, List.getElem?_cons_succ, Option.some.injEq] at ho; subst ho; intro listed f a w3 hJ hsz hls hun hdep hout hlat; first | (rw [if_pos (by rfl)]; intro K hK) | skip)
   ·have q0 := hout 0 ob
    exact wp_mw _ rfl q0 (hK _ _ (hJ.pl HTY hls hT rfl))
   ·have q3 := hout 3 ob
    exact wp_mw _ rfl q3 (hK _ _ (hJ.pl HTY hls hT rfl))
   ·have q13 := hJ.iv hT (hdep ⟨0, .data⟩ (by simp) rfl) rfl rfl _ rfl _ rfl
    have q14 := hJ.iv hT (hdep ⟨1, .data⟩ (by simp) rfl) rfl rfl _ rfl _ rfl
    clear hsz hdep hout hlat
    go_simp
    exact hK _ _ (hJ.pa HTY hls hT)
   ·have q15 := hJ.iw hT (hdep ⟨2, .data⟩ (by simp) rfl) rfl rfl _ rfl _ rfl
    exact ld_vr (.tmp 15) ab (o + k * 42) x XV.out.ok rfl q15 (range_ex XR.out hJ.ext.below HAB.out) (hK _ _ (hJ.pl HTY hls hT rfl))
   ·have q16 := hJ.iv hT (hdep ⟨3, .data⟩ (by simp) rfl) rfl rfl _ rfl _ rfl
    clear hsz hdep hout hlat
    go_simp
    refine (rright_any x w3 (XV.out.ext (Ex.trans BW.out hJ.ext.below))).mono ?_
    rintro e w4 ⟨rfl, x3⟩
    exact hK _ _ (hJ.plain HTY (by rw [hls]; decide) x3 (by rw [hT]; exact congrArg Value.bool HBR.out.symm) nh)
   ·have q17 := hJ.iv hT (hdep ⟨4, .data⟩ (by simp) rfl) rfl rfl _ rfl _ rfl
    clear hsz hdep hout hlat
    go_simp
    exact hK _ _ (hJ.pa HTY hls hT)
   ·have q18 := hJ.iw hT (hdep ⟨5, .data⟩ (by simp) rfl) rfl rfl _ rfl _ rfl
    exact wp_mw _ rfl q18 (hK _ _ (hJ.pl HTY hls hT rfl))
   iterate 3
    focus
     have kg := hJ.iw hT (hdep ⟨6, .guard⟩ (by simp) rfl) rfl rfl _ rfl _ rfl
     rw [if_neg (not_wanted rfl rfl rfl kg (by decide))]
     exact hJ.pl HTY hls hT (by first | exact trivial | rfl)
   iterate 14
    focus
     have kg := hJ.iw hT (hdep ⟨9, .guard⟩ (by simp) rfl) rfl rfl _ rfl _ rfl
     rw [if_neg (not_wanted_x rfl rfl rfl kg (by simp [undef]))]
     exact hJ.pl HTY hls hT (by first | exact trivial | rfl)
   ·have kg := hJ.iw hT (hdep ⟨6, .guard⟩ (by simp) rfl) rfl rfl _ rfl _ rfl
    rw [if_neg (not_wanted rfl rfl rfl kg (by decide))]
    exact hJ.pl HTY hls hT (by first | exact trivial | rfl)
   have q19 := hJ.iv hT (hdep ⟨6, .data⟩ (by simp) rfl) rfl rfl _ rfl _ rfl
   have q37 := hJ.iv hT (hdep ⟨24, .data⟩ (by simp) rfl) rfl rfl _ rfl _ rfl
   clear hsz hdep hout hlat
   go_simp
   exact hK _ _ (hJ.pa HTY hls hT)
  intro listed f w3 hall hJ
  have f25 : f 25 = .bool true := by
   have h := hJ.vals 25 (hall 25 (by simp)) no_c
   rw [hT] at h; exact h
  have xk := hJ.ext
  simp only [putAll, Act.put, List.setIfInBounds_toArray, List.set_cons_zero, List.set_cons_succ, Nat.zero_add, Nat.reduceAdd]
  rw [f25]
  clear f25
  clear hJ hall hT HTY
  replace BW := Hi (Ex.trans BW.out (show Ex wr w3 from xk.below))
  clear xk
  go_wp2_with fail
  have hqf : q = false := by
   cases hqq : q with
   | false => rfl
   | true => exact absurd (HQ.out.1 hqq) (fun hr => by have h1 := hr.2.1 k x HXK.out; rw [← HBR.out] at h1; cases h1)
  go_ret
  exact ⟨q, by rw [hqf]; rfl, HQ.out, BW.out⟩
 rcases k with _ | k1
 ·skip
  obtain ⟨T, hT⟩ : ∃ T : List (Rw wr.heap.size), T = [.is (.slice (some ⟨ab, o, none⟩) n cap), .is (.int .i64 (0 : Nat)), .is (.pointer (some ⟨ab, o + 0 * 42, none⟩)), .is (x.V), .is (.bool true), .is (.bool false), .is (.bool false), .is (.int .i64 (0 : Nat)), .is (.bool false), .is (.bool false), .is (undef), .is (undef), .is (undef), .is (undef), .is (undef), .is (undef), .is (undef), .is (undef), .is (undef), .is (undef), .is (undef), .is (undef), .is (undef), .is (undef), .is (.bool false), .is (.bool false)] := ⟨_, rfl⟩
  have HTY : T.map Rw.tys = ([[], [], [], [], [], [], [], [], [], [], [], [], [], [], [], [], [], [], [], [], [], [], [], [], [], []] : List (List Nat)) := by rw [hT]; rfl
  refine wp_region_gen (JW wr.heap.size wr [0] T ([[], [], [], [], [], [], [], [], [], [], [], [], [], [], [], [], [], [], [], [], [], [], [], [], [], []] : List (List Nat)) ([none, none, none, none, none, none, none, none, none, none, none, none, none, none, none, none, none, none, none, none, none, none, none, none, none, none] : List (Option Nat)) ([] : List (Nat × Nat)) 100000) (by kernel_rfl) (by kernel_rfl) (by kernel_rfl) (fitB_spec (by kernel_rfl)) (fun listed f h => JW.start (Nat.le_refl _) listed f h) ?_ ?_
  ·intro i o ho
   have hi : i < 26 := (Array.getElem?_eq_some_iff.1 ho).1
   have hi' : i = 0 ∨ i = 1 ∨ i = 2 ∨ i = 3 ∨ i = 4 ∨ i = 5 ∨ i = 6 ∨ i = 7 ∨ i = 8 ∨ i = 9 ∨ i = 10 ∨ i = 11 ∨ i = 12 ∨ i = 13 ∨ i = 14 ∨ i = 15 ∨ i = 16 ∨ i = 17 ∨ i = 18 ∨ i = 19 ∨ i = 20 ∨ i = 21 ∨ i = 22 ∨ i = 23 ∨ i = 24 ∨ i = 25 := by omega
   clear hi
   rcases hi' with rfl | rfl | rfl | rfl | rfl | rfl | rfl | rfl | rfl | rfl | rfl | rfl | rfl | rfl | rfl | rfl | rfl | rfl | rfl | rfl | rfl | rfl | rfl | rfl | rfl | rfl
   all_goals (simp only [List.getElem?_toArray, List.getElem?_cons_zero, List.getElem?_cons_succ, Option.some.injEq] at ho; subst ho; intro listed f a w3 hJ hsz hls hun hdep hout hlat; first | (rw [if_pos (by rfl)]; intro K hK) | skip)
   ·have q0 := hout 0 ob
    exact wp_mw _ rfl q0 (hK _ _ (hJ.pl HTY hls hT rfl))
   ·have q3 := hout 3 ob
    exact wp_mw _ rfl q3 (hK _ _ (hJ.pl HTY hls hT rfl))
   ·have q13 := hJ.iv hT (hdep ⟨0, .data⟩ (by simp) rfl) rfl rfl _ rfl _ rfl
    have q14 := hJ.iv hT (hdep ⟨1, .data⟩ (by simp) rfl) rfl rfl _ rfl _ rfl
    clear hsz hdep hout hlat
    go_simp
    exact hK _ _ (hJ.pa HTY hls hT)
   ·have q15 := hJ.iw hT (hdep ⟨2, .data⟩ (by simp) rfl) rfl rfl _ rfl _ rfl
    exact ld_vr (.tmp 15) ab (o + 0 * 42) x XV.out.ok rfl q15 (range_ex XR.out hJ.ext.below HAB.out) (hK _ _ (hJ.pl HTY hls hT rfl))
   ·have q16 := hJ.iv hT (hdep ⟨3, .data⟩ (by simp) rfl) rfl rfl _ rfl _ rfl
    clear hsz hdep hout hlat
    go_simp
    refine (rright_any x w3 (XV.out.ext (Ex.trans BW.out hJ.ext.below))).mono ?_
    rintro e w4 ⟨rfl, x3⟩
    exact hK _ _ (hJ.plain HTY (by rw [hls]; decide) x3 (by rw [hT]; exact congrArg Value.bool HBR.out.symm) nh)
   ·have q17 := hJ.iv hT (hdep ⟨4, .data⟩ (by simp) rfl) rfl rfl _ rfl _ rfl
    clear hsz hdep hout hlat
    go_simp
    exact hK _ _ (hJ.pa HTY hls hT)
   ·have q18 := hJ.iw hT (hdep ⟨5, .data⟩ (by simp) rfl) rfl rfl _ rfl _ rfl
    exact wp_mw _ rfl q18 (hK _ _ (hJ.pl HTY hls hT rfl))
   ·have kg := hJ.iw hT (hdep ⟨6, .guard⟩ (by simp) rfl) rfl rfl _ rfl _ rfl
    rw [if_pos (wanted_of rfl rfl rfl kg)]
    clear kg
    intro K hK
    have q3 := hout 3 ob
    exact wp_mw _ rfl q3 (hK _ _ (hJ.pl HTY hls hT rfl))
   ·have kg := hJ.iw hT (hdep ⟨6, .guard⟩ (by simp) rfl) rfl rfl _ rfl _ rfl
    rw [if_pos (wanted_of rfl rfl rfl kg)]
    clear kg
    intro K hK
    have q20 := hJ.iv hT (hdep ⟨7, .data⟩ (by simp) rfl) rfl rfl _ rfl _ rfl
    clear hsz hdep hout hlat
    go_simp
    exact hK _ _ (hJ.pa HTY hls hT)
   ·have kg := hJ.iw hT (hdep ⟨6, .guard⟩ (by simp) rfl) rfl rfl _ rfl _ rfl
    rw [if_pos (wanted_of rfl rfl rfl kg)]
    clear kg
    intro K hK
    have q21 := hJ.iw hT (hdep ⟨8, .data⟩ (by simp) rfl) rfl rfl _ rfl _ rfl
    exact wp_mw _ rfl q21 (hK _ _ (hJ.pl HTY hls hT rfl))
   iterate 14
    focus
     have kg := hJ.iw hT (hdep ⟨9, .guard⟩ (by simp) rfl) rfl rfl _ rfl _ rfl
     rw [if_neg (not_wanted rfl rfl rfl kg (by decide))]
     exact hJ.pl HTY hls hT (by first | exact trivial | rfl)
   ·have kg := hJ.iw hT (hdep ⟨6, .guard⟩ (by simp) rfl) rfl rfl _ rfl _ rfl
    rw [if_pos (wanted_of rfl rfl rfl kg)]
    clear kg
    intro K hK
    have q22 := hJ.iv hT (hdep ⟨9, .data⟩ (by simp) rfl) rfl rfl _ rfl _ rfl
    have q36 := hJ.iv hT (hdep ⟨23, .data⟩ (by simp) rfl) rfl rfl _ rfl _ rfl
    clear hsz hdep hout hlat
    go_simp
    exact hK _ _ (hJ.pa HTY hls hT)
   have q19 := hJ.iv hT (hdep ⟨6, .data⟩ (by simp) rfl) rfl rfl _ rfl _ rfl
   have q37 := hJ.iv hT (hdep ⟨24, .data⟩ (by simp) rfl) rfl rfl _ rfl _ rfl
   clear hsz hdep hout hlat
   go_simp
   exact hK _ _ (hJ.pa HTY hls hT)
  intro listed f w3 hall hJ
  have f25 : f 25 = .bool false := by
   have h := hJ.vals 25 (hall 25 (by simp)) no_c
   rw [hT] at h; exact h
  have xk := hJ.ext
  simp only [putAll, Act.put, List.setIfInBounds_toArray, List.set_cons_zero, List.set_cons_succ, Nat.zero_add, Nat.reduceAdd]
  rw [f25]
  clear f25
  clear hJ hall hT HTY
  replace BW := Hi (Ex.trans BW.out (show Ex wr w3 from xk.below))
  clear xk
  go_wp2_with (first | ((with_reducible refine so4 [36, 1000+36, 32, 1000+32, 4000+36] ?_ ?_); (focus rfl)) | (with_reducible refine stop_bs (t := 37) ?_) | (with_reducible refine stop_app ?_))
  go_roundw
  case rel => exact ⟨1, by omega, by first | rfl | go_num, Hi (fun j hj => by
          obtain rfl : j = 0 := by omega
          exact ⟨x, HXK.out, HBR.out.symm, fun i hi => by omega⟩), BW⟩
  case measure => simp [intOf]; omega
 obtain ⟨y, hy⟩ : ∃ y, xs[k1]? = some y := ⟨_, List.getElem?_eq_getElem (by rw [← HN.out]; omega)⟩
 have k1i : (k1 : Int) < (n : Int) := by omega
 have k1s : (0 : Int) ≤ (k1 : Int) + 1 := by omega
 have k1t : (k1 : Int) + 1 < (n : Int) := by omega
 have k1z : (0 : Int) ≤ (k1 : Int) := by omega
 have YR := Hi (HRA.out k1 y hy)
 have YV := Hi (HVI.out k1 y hy)
 have HFY := Hi (idF_at xs k1 y hy)
 have HFX := Hi (idF_at xs (k1 + 1) x HXK.out)
 have hls0 := less_str YV.out.ok.idN XV.out.ok.idN
 by_cases hf : idn y.id < idn x.id
 ·rw [decide_eq_true hf] at hls0
  have HLS := Hi hls0
  have HF := Hi hf
  clear hf hy hls0
  obtain ⟨T, hT⟩ : ∃ T : List (Rw wr.heap.size), T = [.is (.slice (some ⟨ab, o, none⟩) n cap), .is (.int .i64 (k1 + 1 : Nat)), .is (.pointer (some ⟨ab, o + (k1 + 1) * 42, none⟩)), .is (x.V), .is (.bool true), .is (.bool false), .is (.bool false), .is (.int .i64 (k1 + 1 : Nat)), .is (.bool true), .is (.bool true), .is (.slice (some ⟨ab, o, none⟩) n cap), .is (.int .i64 (k1 + 1 : Nat)), .is (.int .i64 k1), .is (.pointer (some ⟨ab, o + k1 * 42, none⟩)), .is (.pointer (some ⟨ab, o + k1 * 42, none⟩)), .is (.slice (some ⟨ab, o + k1 * 42, none⟩) 4 4), .is (.string (strL y.id)), .is (.slice (some ⟨ab, o, none⟩) n cap), .is (.int .i64 (k1 + 1 : Nat)), .is (.pointer (some ⟨ab, o + (k1 + 1) * 42, none⟩)), .is (.pointer (some ⟨ab, o + (k1 + 1) * 42, none⟩)), .is (.slice (some ⟨ab, o + (k1 + 1) * 42, none⟩) 4 4), .is (.string (strL x.id)), .is (.bool false), .is (.bool false), .is (.bool false)] := ⟨_, rfl⟩
  have HTY : T.map Rw.tys = ([[], [], [], [], [], [], [], [], [], [], [], [], [], [], [], [], [], [], [], [], [], [], [], [], [], []] : List (List Nat)) := by rw [hT]; rfl
  refine wp_region_gen (JW wr.heap.size wr [0] T ([[], [], [], [], [], [], [], [], [], [], [], [], [], [], [], [], [], [], [], [], [], [], [], [], [], []] : List (List Nat)) ([none, none, none, none, none, none, none, none, none, none, none, none, none, none, none, none, none, none, none, none, none, none, none, none, none, none] : List (Option Nat)) ([] : List (Nat × Nat)) 100000) (by kernel_rfl) (by kernel_rfl) (by kernel_rfl) (fitB_spec (by kernel_rfl)) (fun listed f h => JW.start (Nat.le_refl _) listed f h) ?_ ?_
  ·intro i o ho
   have hi : i < 26 := (Array.getElem?_eq_some_iff.1 ho).1
   have hi' : i = 0 ∨ i = 1 ∨ i = 2 ∨ i = 3 ∨ i = 4 ∨ i = 5 ∨ i = 6 ∨ i = 7 ∨ i = 8 ∨ i = 9 ∨ i = 10 ∨ i = 11 ∨ i = 12 ∨ i = 13 ∨ i = 14 ∨ i = 15 ∨ i = 16 ∨ i = 17 ∨ i = 18 ∨ i = 19 ∨ i = 20 ∨ i = 21 ∨ i = 22 ∨ i = 23 ∨ i = 24 ∨ i = 25 := by omega
   clear hi
   rcases hi' with rfl | rfl | rfl | rfl | rfl | rfl | rfl | rfl | rfl | rfl | rfl | rfl | rfl | rfl | rfl | rfl | rfl | rfl | rfl | rfl | rfl | rfl | rfl | rfl | rfl | rfl
   all_goals (simp only [List.getElem?_toArray, List.getElem?_cons_zero, List.getElem?_cons_succ, Option.some.injEq] at ho; subst ho; intro listed f a w3 hJ hsz hls hun hdep hout hlat; first | (rw [if_pos (by rfl)]; intro K hK) | skip)
   ·have q0 := hout 0 ob
    exact wp_mw _ rfl q0 (hK _ _ (hJ.pl HTY hls hT rfl))
   ·have q3 := hout 3 ob
    exact wp_mw _ rfl q3 (hK _ _ (hJ.pl HTY hls hT rfl))
   ·have q13 := hJ.iv hT (hdep ⟨0, .data⟩ (by simp) rfl) rfl rfl _ rfl _ rfl
    have q14 := hJ.iv hT (hdep ⟨1, .data⟩ (by simp) rfl) rfl rfl _ rfl _ rfl
    clear hsz hdep hout hlat
    go_simp
    exact hK _ _ (hJ.pa HTY hls hT)
   ·have q15 := hJ.iw hT (hdep ⟨2, .data⟩ (by simp) rfl) rfl rfl _ rfl _ rfl
    exact ld_vr (.tmp 15) ab (o + (k1 + 1) * 42) x XV.out.ok rfl q15 (range_ex XR.out hJ.ext.below HAB.out) (hK _ _ (hJ.pl HTY hls hT rfl))
   ·have q16 := hJ.iv hT (hdep ⟨3, .data⟩ (by simp) rfl) rfl rfl _ rfl _ rfl
    clear hsz hdep hout hlat
    go_simp
    refine (rright_any x w3 (XV.out.ext (Ex.trans BW.out hJ.ext.below))).mono ?_
    rintro e w4 ⟨rfl, x3⟩
    exact hK _ _ (hJ.plain HTY (by rw [hls]; decide) x3 (by rw [hT]; exact congrArg Value.bool HBR.out.symm) nh)
   ·have q17 := hJ.iv hT (hdep ⟨4, .data⟩ (by simp) rfl) rfl rfl _ rfl _ rfl
    clear hsz hdep hout hlat
    go_simp
    exact hK _ _ (hJ.pa HTY hls hT)
   ·have q18 := hJ.iw hT (hdep ⟨5, .data⟩ (by simp) rfl) rfl rfl _ rfl _ rfl
    exact wp_mw _ rfl q18 (hK _ _ (hJ.pl HTY hls hT rfl))
   ·have kg := hJ.iw hT (hdep ⟨6, .guard⟩ (by simp) rfl) rfl rfl _ rfl _ rfl
    rw [if_pos (wanted_of rfl rfl rfl kg)]
    clear kg
    intro K hK
    have q3 := hout 3 ob
    exact wp_mw _ rfl q3 (hK _ _ (hJ.pl HTY hls hT rfl))
   ·have kg := hJ.iw hT (hdep ⟨6, .guard⟩ (by simp) rfl) rfl rfl _ rfl _ rfl
    rw [if_pos (wanted_of rfl rfl rfl kg)]
    clear kg
    intro K hK
    have q20 := hJ.iv hT (hdep ⟨7, .data⟩ (by simp) rfl) rfl rfl _ rfl _ rfl
    have qk : (0 : Int) < ((k1 + 1 : Nat) : Int) := by omega
    clear hsz hdep hout hlat
    go_simp
    exact hK _ _ (hJ.plain HTY (by rw [hls]; decide) (Ex.refl _) (by rw [hT]; first | rfl | simp) nh)
   ·have kg := hJ.iw hT (hdep ⟨6, .guard⟩ (by simp) rfl) rfl rfl _ rfl _ rfl
    rw [if_pos (wanted_of rfl rfl rfl kg)]
    clear kg
    intro K hK
    have q21 := hJ.iw hT (hdep ⟨8, .data⟩ (by simp) rfl) rfl rfl _ rfl _ rfl
    exact wp_mw _ rfl q21 (hK _ _ (hJ.pl HTY hls hT rfl))
   ·have kg := hJ.iw hT (hdep ⟨9, .guard⟩ (by simp) rfl) rfl rfl _ rfl _ rfl
    rw [if_pos (wanted_of rfl rfl rfl kg)]
    clear kg
    intro K hK
    have q0 := hout 0 ob
    exact wp_mw _ rfl q0 (hK _ _ (hJ.pl HTY hls hT rfl))
   ·have kg := hJ.iw hT (hdep ⟨9, .guard⟩ (by simp) rfl) rfl rfl _ rfl _ rfl
    rw [if_pos (wanted_of rfl rfl rfl kg)]
    clear kg
    intro K hK
    have q3 := hout 3 ob
    exact wp_mw _ rfl q3 (hK _ _ (hJ.pl HTY hls hT rfl))
   ·have kg := hJ.iw hT (hdep ⟨9, .guard⟩ (by simp) rfl) rfl rfl _ rfl _ rfl
    rw [if_pos (wanted_of rfl rfl rfl kg)]
    clear kg
    intro K hK
    have q24 := hJ.iv hT (hdep ⟨11, .data⟩ (by simp) rfl) rfl rfl _ rfl _ rfl
    clear hsz hdep hout hlat
    go_simp
    exact hK _ _ (hJ.pa HTY hls hT)
   ·have kg := hJ.iw hT (hdep ⟨9, .guard⟩ (by simp) rfl) rfl rfl _ rfl _ rfl
    rw [if_pos (wanted_of rfl rfl rfl kg)]
    clear kg
    intro K hK
    have q23 := hJ.iv hT (hdep ⟨10, .data⟩ (by simp) rfl) rfl rfl _ rfl _ rfl
    have q25 := hJ.iv hT (hdep ⟨12, .data⟩ (by simp) rfl) rfl rfl _ rfl _ rfl
    clear hsz hdep hout hlat
    go_simp
    exact hK _ _ (hJ.pa HTY hls hT)
   ·have kg := hJ.iw hT (hdep ⟨9, .guard⟩ (by simp) rfl) rfl rfl _ rfl _ rfl
    rw [if_pos (wanted_of rfl rfl rfl kg)]
    clear kg
    intro K hK
    have q26 := hJ.iv hT (hdep ⟨13, .data⟩ (by simp) rfl) rfl rfl _ rfl _ rfl
    clear hsz hdep hout hlat
    go_simp
    exact hK _ _ (hJ.pa HTY hls hT)
   ·have kg := hJ.iw hT (hdep ⟨9, .guard⟩ (by simp) rfl) rfl rfl _ rfl _ rfl
    rw [if_pos (wanted_of rfl rfl rfl kg)]
    clear kg
    intro K hK
    have q27 := hJ.iv hT (hdep ⟨14, .data⟩ (by simp) rfl) rfl rfl _ rfl _ rfl
    clear hsz hdep hout hlat
    go_simp
    exact hK _ _ (hJ.pa HTY hls hT)
   ·have kg := hJ.iw hT (hdep ⟨9, .guard⟩ (by simp) rfl) rfl rfl _ rfl _ rfl
    rw [if_pos (wanted_of rfl rfl rfl kg)]
    clear kg
    intro K hK
    have q28 := hJ.iw hT (hdep ⟨15, .data⟩ (by simp) rfl) rfl rfl _ rfl _ rfl
    have hcv := conv_id YV.out.ok (range_ex YR.out hJ.ext.below HAB.out) (Nat.lt_of_lt_of_le HAB.out (Ex.sz' hJ.ext.below))
    rw [gd9] at q28
    clear hsz hdep hout hlat
    go_simp
    exact hK _ _ (hJ.pl HTY hls hT rfl)
   ·have kg := hJ.iw hT (hdep ⟨9, .guard⟩ (by simp) rfl) rfl rfl _ rfl _ rfl
    rw [if_pos (wanted_of rfl rfl rfl kg)]
    clear kg
    intro K hK
    have q0 := hout 0 ob
    exact wp_mw _ rfl q0 (hK _ _ (hJ.pl HTY hls hT rfl))
   ·have kg := hJ.iw hT (hdep ⟨9, .guard⟩ (by simp) rfl) rfl rfl _ rfl _ rfl
    rw [if_pos (wanted_of rfl rfl rfl kg)]
    clear kg
    intro K hK
    have q3 := hout 3 ob
    exact wp_mw _ rfl q3 (hK _ _ (hJ.pl HTY hls hT rfl))
   ·have kg := hJ.iw hT (hdep ⟨9, .guard⟩ (by simp) rfl) rfl rfl _ rfl _ rfl
    rw [if_pos (wanted_of rfl rfl rfl kg)]
    clear kg
    intro K hK
    have q30 := hJ.iv hT (hdep ⟨17, .data⟩ (by simp) rfl) rfl rfl _ rfl _ rfl
    have q31 := hJ.iv hT (hdep ⟨18, .data⟩ (by simp) rfl) rfl rfl _ rfl _ rfl
    clear hsz hdep hout hlat
    go_simp
    exact hK _ _ (hJ.pa HTY hls hT)
   ·have kg := hJ.iw hT (hdep ⟨9, .guard⟩ (by simp) rfl) rfl rfl _ rfl _ rfl
    rw [if_pos (wanted_of rfl rfl rfl kg)]
    clear kg
    intro K hK
    have q32 := hJ.iv hT (hdep ⟨19, .data⟩ (by simp) rfl) rfl rfl _ rfl _ rfl
    clear hsz hdep hout hlat
    go_simp
    exact hK _ _ (hJ.pa HTY hls hT)
   ·have kg := hJ.iw hT (hdep ⟨9, .guard⟩ (by simp) rfl) rfl rfl _ rfl _ rfl
    rw [if_pos (wanted_of rfl rfl rfl kg)]
    clear kg
    intro K hK
    have q33 := hJ.iv hT (hdep ⟨20, .data⟩ (by simp) rfl) rfl rfl _ rfl _ rfl
    clear hsz hdep hout hlat
    go_simp
    exact hK _ _ (hJ.pa HTY hls hT)
   ·have kg := hJ.iw hT (hdep ⟨9, .guard⟩ (by simp) rfl) rfl rfl _ rfl _ rfl
    rw [if_pos (wanted_of rfl rfl rfl kg)]
    clear kg
    intro K hK
    have q34 := hJ.iw hT (hdep ⟨21, .data⟩ (by simp) rfl) rfl rfl _ rfl _ rfl
    have hcv := conv_id XV.out.ok (range_ex XR.out hJ.ext.below HAB.out) (Nat.lt_of_lt_of_le HAB.out (Ex.sz' hJ.ext.below))
    rw [gd9] at q34
    clear hsz hdep hout hlat
    go_simp
    exact hK _ _ (hJ.pl HTY hls hT rfl)
   ·have kg := hJ.iw hT (hdep ⟨9, .guard⟩ (by simp) rfl) rfl rfl _ rfl _ rfl
    rw [if_pos (wanted_of rfl rfl rfl kg)]
    clear kg
    intro K hK
    have q29 := hJ.iv hT (hdep ⟨16, .data⟩ (by simp) rfl) rfl rfl _ rfl _ rfl
    have q35 := hJ.iv hT (hdep ⟨22, .data⟩ (by simp) rfl) rfl rfl _ rfl _ rfl
    have hl := HLS.out
    clear hsz hdep hout hlat
    go_simp
    exact hK _ _ (hJ.plain HTY (by rw [hls]; decide) (Ex.refl _) (by rw [hT]; first | rfl | (rw [hl]; rfl) | simp [hl]) nh)
   ·have kg := hJ.iw hT (hdep ⟨6, .guard⟩ (by simp) rfl) rfl rfl _ rfl _ rfl
    rw [if_pos (wanted_of rfl rfl rfl kg)]
    clear kg
    intro K hK
    have q22 := hJ.iv hT (hdep ⟨9, .data⟩ (by simp) rfl) rfl rfl _ rfl _ rfl
    have q36 := hJ.iv hT (hdep ⟨23, .data⟩ (by simp) rfl) rfl rfl _ rfl _ rfl
    clear hsz hdep hout hlat
    go_simp
    exact hK _ _ (hJ.pa HTY hls hT)
   have q19 := hJ.iv hT (hdep ⟨6, .data⟩ (by simp) rfl) rfl rfl _ rfl _ rfl
   have q37 := hJ.iv hT (hdep ⟨24, .data⟩ (by simp) rfl) rfl rfl _ rfl _ rfl
   clear hsz hdep hout hlat
   go_simp
   exact hK _ _ (hJ.pa HTY hls hT)
  intro listed f w3 hall hJ
  have f25 : f 25 = .bool false := by
   have h := hJ.vals 25 (hall 25 (by simp)) no_c
   rw [hT] at h; exact h
  have xk := hJ.ext
  simp only [putAll, Act.put, List.setIfInBounds_toArray, List.set_cons_zero, List.set_cons_succ, Nat.zero_add, Nat.reduceAdd]
  rw [f25]
  clear f25
  clear hJ hall hT HTY
  replace BW := Hi (Ex.trans BW.out (show Ex wr w3 from xk.below))
  clear xk
  go_wp2_with (first | ((with_reducible refine so4 [36, 1000+36, 32, 1000+32, 4000+36] ?_ ?_); (focus rfl)) | (with_reducible refine stop_bs (t := 37) ?_) | (with_reducible refine stop_app ?_))
  go_roundw
  case rel => exact ⟨k1 + 1 + 1, by omega, by go_num, Hi (fun j hj => by
           rcases Nat.lt_or_ge j (k1 + 1) with h | h
           ·exact HG.out j h
           ·obtain rfl : j = k1 + 1 := by omega
            exact ⟨x, HXK.out, HBR.out.symm, fun i hi => by
             obtain rfl : i = k1 := by omega
             rw [HFY.out, HFX.out]; exact HF.out⟩), BW⟩
  case measure => simp [intOf]; omega
 rw [decide_eq_false hf] at hls0
 have HLS := Hi hls0
 have HF := Hi hf
 clear hf hy hls0
 obtain ⟨T, hT⟩ : ∃ T : List (Rw wr.heap.size), T = [.is (.slice (some ⟨ab, o, none⟩) n cap), .is (.int .i64 (k1 + 1 : Nat)), .is (.pointer (some ⟨ab, o + (k1 + 1) * 42, none⟩)), .is (x.V), .is (.bool true), .is (.bool false), .is (.bool false), .is (.int .i64 (k1 + 1 : Nat)), .is (.bool true), .is (.bool true), .is (.slice (some ⟨ab, o, none⟩) n cap), .is (.int .i64 (k1 + 1 : Nat)), .is (.int .i64 k1), .is (.pointer (some ⟨ab, o + k1 * 42, none⟩)), .is (.pointer (some ⟨ab, o + k1 * 42, none⟩)), .is (.slice (some ⟨ab, o + k1 * 42, none⟩) 4 4), .is (.string (strL y.id)), .is (.slice (some ⟨ab, o, none⟩) n cap), .is (.int .i64 (k1 + 1 : Nat)), .is (.pointer (some ⟨ab, o + (k1 + 1) * 42, none⟩)), .is (.pointer (some ⟨ab, o + (k1 + 1) * 42, none⟩)), .is (.slice (some ⟨ab, o + (k1 + 1) * 42, none⟩) 4 4), .is (.string (strL x.id)), .is (.bool true), .is (.bool true), .is (.bool true)] := ⟨_, rfl⟩
 have HTY : T.map Rw.tys = ([[], [], [], [], [], [], [], [], [], [], [], [], [], [], [], [], [], [], [], [], [], [], [], [], [], []] : List (List Nat)) := by rw [hT]; rfl
 refine wp_region_gen (JW wr.heap.size wr [0] T ([[], [], [], [], [], [], [], [], [], [], [], [], [], [], [], [], [], [], [], [], [], [], [], [], [], []] : List (List Nat)) ([none, none, none, none, none, none, none, none, none, none, none, none, none, none, none, none, none, none, none, none, none, none, none, none, none, none] : List (Option Nat)) ([] : List (Nat × Nat)) 100000) (by kernel_rfl) (by kernel_rfl) (by kernel_rfl) (fitB_spec (by kernel_rfl)) (fun listed f h => JW.start (Nat.le_refl _) listed f h) ?_ ?_
 ·intro i o ho
  have hi : i < 26 := (Array.getElem?_eq_some_iff.1 ho).1
  have hi' : i = 0 ∨ i = 1 ∨ i = 2 ∨ i = 3 ∨ i = 4 ∨ i = 5 ∨ i = 6 ∨ i = 7 ∨ i = 8 ∨ i = 9 ∨ i = 10 ∨ i = 11 ∨ i = 12 ∨ i = 13 ∨ i = 14 ∨ i = 15 ∨ i = 16 ∨ i = 17 ∨ i = 18 ∨ i = 19 ∨ i = 20 ∨ i = 21 ∨ i = 22 ∨ i = 23 ∨ i = 24 ∨ i = 25 := by omega
  clear hi
  rcases hi' with rfl | rfl | rfl | rfl | rfl | rfl | rfl | rfl | rfl | rfl | rfl | rfl | rfl | rfl | rfl | rfl | rfl | rfl | rfl | rfl | rfl | rfl | rfl | rfl | rfl | rfl
  all_goals (simp only [List.getElem?_toArray, List.getElem?_cons_zero, List.getElem?_cons_succ, Option.some.injEq] at ho; subst ho; intro listed f a w3 hJ hsz hls hun hdep hout hlat; first | (rw [if_pos (by rfl)]; intro K hK) | skip)
  ·have q0 := hout 0 ob
   exact wp_mw _ rfl q0 (hK _ _ (hJ.pl HTY hls hT rfl))
  ·have q3 := hout 3 ob
   exact wp_mw _ rfl q3 (hK _ _ (hJ.pl HTY hls hT rfl))
  ·have q13 := hJ.iv hT (hdep ⟨0, .data⟩ (by simp) rfl) rfl rfl _ rfl _ rfl
   have q14 := hJ.iv hT (hdep ⟨1, .data⟩ (by simp) rfl) rfl rfl _ rfl _ rfl
   clear hsz hdep hout hlat
   go_simp
   exact hK _ _ (hJ.pa HTY hls hT)
  ·have q15 := hJ.iw hT (hdep ⟨2, .data⟩ (by simp) rfl) rfl rfl _ rfl _ rfl
   exact ld_vr (.tmp 15) ab (o + (k1 + 1) * 42) x XV.out.ok rfl q15 (range_ex XR.out hJ.ext.below HAB.out) (hK _ _ (hJ.pl HTY hls hT rfl))
  ·have q16 := hJ.iv hT (hdep ⟨3, .data⟩ (by simp) rfl) rfl rfl _ rfl _ rfl
   clear hsz hdep hout hlat
   go_simp
   refine (rright_any x w3 (XV.out.ext (Ex.trans BW.out hJ.ext.below))).mono ?_
   rintro e w4 ⟨rfl, x3⟩
   exact hK _ _ (hJ.plain HTY (by rw [hls]; decide) x3 (by rw [hT]; exact congrArg Value.bool HBR.out.symm) nh)
  ·have q17 := hJ.iv hT (hdep ⟨4, .data⟩ (by simp) rfl) rfl rfl _ rfl _ rfl
   clear hsz hdep hout hlat
   go_simp
   exact hK _ _ (hJ.pa HTY hls hT)
  ·have q18 := hJ.iw hT (hdep ⟨5, .data⟩ (by simp) rfl) rfl rfl _ rfl _ rfl
   exact wp_mw _ rfl q18 (hK _ _ (hJ.pl HTY hls hT rfl))
  ·have kg := hJ.iw hT (hdep ⟨6, .guard⟩ (by simp) rfl) rfl rfl _ rfl _ rfl
   rw [if_pos (wanted_of rfl rfl rfl kg)]
   clear kg
   intro K hK
   have q3 := hout 3 ob
   exact wp_mw _ rfl q3 (hK _ _ (hJ.pl HTY hls hT rfl))
  ·have kg := hJ.iw hT (hdep ⟨6, .guard⟩ (by simp) rfl) rfl rfl _ rfl _ rfl
   rw [if_pos (wanted_of rfl rfl rfl kg)]
   clear kg
   intro K hK
   have q20 := hJ.iv hT (hdep ⟨7, .data⟩ (by simp) rfl) rfl rfl _ rfl _ rfl
   have qk : (0 : Int) < ((k1 + 1 : Nat) : Int) := by omega
   clear hsz hdep hout hlat
   go_simp
   exact hK _ _ (hJ.plain HTY (by rw [hls]; decide) (Ex.refl _) (by rw [hT]; first | rfl | simp) nh)
  ·have kg := hJ.iw hT (hdep ⟨6, .guard⟩ (by simp) rfl) rfl rfl _ rfl _ rfl
   rw [if_pos (wanted_of rfl rfl rfl kg)]
   clear kg
   intro K hK
   have q21 := hJ.iw hT (hdep ⟨8, .data⟩ (by simp) rfl) rfl rfl _ rfl _ rfl
   exact wp_mw _ rfl q21 (hK _ _ (hJ.pl HTY hls hT rfl))
  ·have kg := hJ.iw hT (hdep ⟨9, .guard⟩ (by simp) rfl) rfl rfl _ rfl _ rfl
   rw [if_pos (wanted_of rfl rfl rfl kg)]
   clear kg
   intro K hK
   have q0 := hout 0 ob
   exact wp_mw _ rfl q0 (hK _ _ (hJ.pl HTY hls hT rfl))
  ·have kg := hJ.iw hT (hdep ⟨9, .guard⟩ (by simp) rfl) rfl rfl _ rfl _ rfl
   rw [if_pos (wanted_of rfl rfl rfl kg)]
   clear kg
   intro K hK
   have q3 := hout 3 ob
   exact wp_mw _ rfl q3 (hK _ _ (hJ.pl HTY hls hT rfl))
  ·have kg := hJ.iw hT (hdep ⟨9, .guard⟩ (by simp) rfl) rfl rfl _ rfl _ rfl
   rw [if_pos (wanted_of rfl rfl rfl kg)]
   clear kg
   intro K hK
   have q24 := hJ.iv hT (hdep ⟨11, .data⟩ (by simp) rfl) rfl rfl _ rfl _ rfl
   clear hsz hdep hout hlat
   go_simp
   exact hK _ _ (hJ.pa HTY hls hT)
  ·have kg := hJ.iw hT (hdep ⟨9, .guard⟩ (by simp) rfl) rfl rfl _ rfl _ rfl
   rw [if_pos (wanted_of rfl rfl rfl kg)]
   clear kg
   intro K hK
   have q23 := hJ.iv hT (hdep ⟨10, .data⟩ (by simp) rfl) rfl rfl _ rfl _ rfl
   have q25 := hJ.iv hT (hdep ⟨12, .data⟩ (by simp) rfl) rfl rfl _ rfl _ rfl
   clear hsz hdep hout hlat
   go_simp
   exact hK _ _ (hJ.pa HTY hls hT)
  ·have kg := hJ.iw hT (hdep ⟨9, .guard⟩ (by simp) rfl) rfl rfl _ rfl _ rfl
   rw [if_pos (wanted_of rfl rfl rfl kg)]
   clear kg
   intro K hK
   have q26 := hJ.iv hT (hdep ⟨13, .data⟩ (by simp) rfl) rfl rfl _ rfl _ rfl
   clear hsz hdep hout hlat
   go_simp
   exact hK _ _ (hJ.pa HTY hls hT)
  ·have kg := hJ.iw hT (hdep ⟨9, .guard⟩ (by simp) rfl) rfl rfl _ rfl _ rfl
   rw [if_pos (wanted_of rfl rfl rfl kg)]
   clear kg
   intro K hK
   have q27 := hJ.iv hT (hdep ⟨14, .data⟩ (by simp) rfl) rfl rfl _ rfl _ rfl
   clear hsz hdep hout hlat
   go_simp
   exact hK _ _ (hJ.pa HTY hls hT)
  ·have kg := hJ.iw hT (hdep ⟨9, .guard⟩ (by simp) rfl) rfl rfl _ rfl _ rfl
   rw [if_pos (wanted_of rfl rfl rfl kg)]
   clear kg
   intro K hK
   have q28 := hJ.iw hT (hdep ⟨15, .data⟩ (by simp) rfl) rfl rfl _ rfl _ rfl
   have hcv := conv_id YV.out.ok (range_ex YR.out hJ.ext.below HAB.out) (Nat.lt_of_lt_of_le HAB.out (Ex.sz' hJ.ext.below))
   rw [gd9] at q28
   clear hsz hdep hout hlat
   go_simp
   exact hK _ _ (hJ.pl HTY hls hT rfl)
  ·have kg := hJ.iw hT (hdep ⟨9, .guard⟩ (by simp) rfl) rfl rfl _ rfl _ rfl
   rw [if_pos (wanted_of rfl rfl rfl kg)]
   clear kg
   intro K hK
   have q0 := hout 0 ob
   exact wp_mw _ rfl q0 (hK _ _ (hJ.pl HTY hls hT rfl))
  ·have kg := hJ.iw hT (hdep ⟨9, .guard⟩ (by simp) rfl) rfl rfl _ rfl _ rfl
   rw [if_pos (wanted_of rfl rfl rfl kg)]
   clear kg
   intro K hK
   have q3 := hout 3 ob
   exact wp_mw _ rfl q3 (hK _ _ (hJ.pl HTY hls hT rfl))
  ·have kg := hJ.iw hT (hdep ⟨9, .guard⟩ (by simp) rfl) rfl rfl _ rfl _ rfl
   rw [if_pos (wanted_of rfl rfl rfl kg)]
   clear kg
   intro K hK
   have q30 := hJ.iv hT (hdep ⟨17, .data⟩ (by simp) rfl) rfl rfl _ rfl _ rfl
   have q31 := hJ.iv hT (hdep ⟨18, .data⟩ (by simp) rfl) rfl rfl _ rfl _ rfl
   clear hsz hdep hout hlat
   go_simp
   exact hK _ _ (hJ.pa HTY hls hT)
  ·have kg := hJ.iw hT (hdep ⟨9, .guard⟩ (by simp) rfl) rfl rfl _ rfl _ rfl
   rw [if_pos (wanted_of rfl rfl rfl kg)]
   clear kg
   intro K hK
   have q32 := hJ.iv hT (hdep ⟨19, .data⟩ (by simp) rfl) rfl rfl _ rfl _ rfl
   clear hsz hdep hout hlat
   go_simp
   exact hK _ _ (hJ.pa HTY hls hT)
  ·have kg := hJ.iw hT (hdep ⟨9, .guard⟩ (by simp) rfl) rfl rfl _ rfl _ rfl
   rw [if_pos (wanted_of rfl rfl rfl kg)]
   clear kg
   intro K hK
   have q33 := hJ.iv hT (hdep ⟨20, .data⟩ (by simp) rfl) rfl rfl _ rfl _ rfl
   clear hsz hdep hout hlat
   go_simp
   exact hK _ _ (hJ.pa HTY hls hT)
  ·have kg := hJ.iw hT (hdep ⟨9, .guard⟩ (by simp) rfl) rfl rfl _ rfl _ rfl
   rw [if_pos (wanted_of rfl rfl rfl kg)]
   clear kg
   intro K hK
   have q34 := hJ.iw hT (hdep ⟨21, .data⟩ (by simp) rfl) rfl rfl _ rfl _ rfl
   have hcv := conv_id XV.out.ok (range_ex XR.out hJ.ext.below HAB.out) (Nat.lt_of_lt_of_le HAB.out (Ex.sz' hJ.ext.below))
   rw [gd9] at q34
   clear hsz hdep hout hlat
   go_simp
   exact hK _ _ (hJ.pl HTY hls hT rfl)
  ·have kg := hJ.iw hT (hdep ⟨9, .guard⟩ (by simp) rfl) rfl rfl _ rfl _ rfl
   rw [if_pos (wanted_of rfl rfl rfl kg)]
   clear kg
   intro K hK
   have q29 := hJ.iv hT (hdep ⟨16, .data⟩ (by simp) rfl) rfl rfl _ rfl _ rfl
   have q35 := hJ.iv hT (hdep ⟨22, .data⟩ (by simp) rfl) rfl rfl _ rfl _ rfl
   have hl := HLS.out
   clear hsz hdep hout hlat
   go_simp
   exact hK _ _ (hJ.plain HTY (by rw [hls]; decide) (Ex.refl _) (by rw [hT]; first | rfl | (rw [hl]; rfl) | simp [hl]) nh)
  ·have kg := hJ.iw hT (hdep ⟨6, .guard⟩ (by simp) rfl) rfl rfl _ rfl _ rfl
   rw [if_pos (wanted_of rfl rfl rfl kg)]
   clear kg
   intro K hK
   have q22 := hJ.iv hT (hdep ⟨9, .data⟩ (by simp) rfl) rfl rfl _ rfl _ rfl
   have q36 := hJ.iv hT (hdep ⟨23, .data⟩ (by simp) rfl) rfl rfl _ rfl _ rfl
   clear hsz hdep hout hlat
   go_simp
   exact hK _ _ (hJ.pa HTY hls hT)
  have q19 := hJ.iv hT (hdep ⟨6, .data⟩ (by simp) rfl) rfl rfl _ rfl _ rfl
  have q37 := hJ.iv hT (hdep ⟨24, .data⟩ (by simp) rfl) rfl rfl _ rfl _ rfl
  clear hsz hdep hout hlat
  go_simp
  exact hK _ _ (hJ.pa HTY hls hT)
 intro listed f w3 hall hJ
 have f25 : f 25 = .bool true := by
  have h := hJ.vals 25 (hall 25 (by simp)) no_c
  rw [hT] at h; exact h
 have xk := hJ.ext
 simp only [putAll, Act.put, List.setIfInBounds_toArray, List.set_cons_zero, List.set_cons_succ, Nat.zero_add, Nat.reduceAdd]
 rw [f25]
 clear f25
 clear hJ hall hT HTY
 replace BW := Hi (Ex.trans BW.out (show Ex wr w3 from xk.below))
 clear xk
 go_wp2_with fail
 have hqf : q = false := by
  cases hqq : q with
  | false => rfl
  | true => exact absurd (HQ.out.1 hqq) (fun hr => by have h1 := hr.2.2 k1 (by rw [← HN.out]; omega); rw [HFY.out, HFX.out] at h1; exact HF.out h1)
 go_ret
 exact ⟨q, by rw [hqf]; rfl, HQ.out, BW.out⟩
end Go.Proofs.Ytmjfnpmnhehnkaa
