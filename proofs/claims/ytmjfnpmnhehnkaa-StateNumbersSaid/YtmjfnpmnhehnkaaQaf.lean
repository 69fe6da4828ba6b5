/- Tb, Tc -/
import Derived.Test.YtmjfnpmnhehnkaaQae
set_option maxRecDepth 100000
set_option maxHeartbeats 16000000
namespace Go.Proofs.Ytmjfnpmnhehnkaa
open Go.RowKit
theorem bcmp4 (g h a b : Nat) (x y : List UInt8) (hx : x.length = 4) (hy : y.length = 4) (w : World) (h1 : (Pt.mk (some ⟨g, a, none⟩) 4 x).In w w.heap.size) (h2 : (Pt.mk (some ⟨h, b, none⟩) 4 y).In w w.heap.size) :
  Calls Try.prog 134 #[.slice (some ⟨g, a, none⟩) 4 4, .slice (some ⟨h, b, none⟩) 4 4] w fun e w' => e = .returned (.int .i64 (cmpN (idn x) (idn y))) ∧ w = w' := by
 have := bcmp_any _ _ w h1 h2
 unfold Pt.V at this
 simp only [hx, hy] at this
 rw [cmp_idn hx hy] at this
 exact this
theorem id_pt {w : World} {g o : Nat} {t : TypeId} {C : List Value} {x : List UInt8} (hb : Bk w g t C.toArray) (hx : x.length = 4) (hc : (C.drop o).take (Lib.byteCells x).length = Lib.byteCells x) : (Pt.mk (some ⟨g, o, none⟩) 4 x).In w w.heap.size := by
 have hr := hb.part o (Lib.byteCells x) hc
 exact ⟨by show x.length ≤ 4; omega, (fun h => by cases h), fun _ => ⟨g, o, rfl, hb.lt, fun i hi => by
  have hi' : i < x.length := hi
  rw [hr i _ (byteCells_get x i hi')]
  simp [List.getD, hi']⟩⟩
theorem ld_idb {o : Oper} {a : Act} {w : World} {K : Act → World → Prop} {Q : Exit → Act → World → Prop} (y : Operand) (g : Nat) (x : List UInt8) (hx : x.length = 4) (ho : o.op = .load 32 y) (ha : a.eval y = .pointer (some ⟨g, 0, none⟩)) (h : Bk w g 32 (Lib.byteCells x).toArray) (hk : K (a.put o.dst (digV x)) w) : o.wp Try.prog a w K Q := by
 obtain ⟨dd, hd⟩ : ∃ d, Try.prog.underlying 32 = some d ∧ d.isRow = true := ⟨_, Try.underlying32, rfl⟩
 exact wp_load_mid 32 y ho g 0 ha (Lib.byteCells x) dd h.range hd.1 hd.2 (by rw [Try.sizeId, byteCells_len, hx]) hk
theorem ld_vr {o : Oper} {a : Act} {w : World} {K : Act → World → Prop} {Q : Exit → Act → World → Prop} (y : Operand) (g off : Nat) (x : Vt) (hx : x.Ok) (ho : o.op = .load 36 y) (ha : a.eval y = .pointer (some ⟨g, off, none⟩)) (h : w.rangeAt g off x.C) (hk : K (a.put o.dst x.V) w) : o.wp Try.prog a w K Q := by
 obtain ⟨dd, hd⟩ : ∃ d, Try.prog.underlying 36 = some d ∧ d.isRow = true := ⟨_, Try.underlying36, rfl⟩
 exact wp_load_mid 36 y ho g off ha x.C dd h hd.1 hd.2 (by rw [Try.sizeVt, Vt.len hx]) hk
structure Vp.In (ad : Option Addr) (cap : Nat) (l : List Vt) (w : World) : Prop where
 len : l.length ≤ cap
 nil : ad = none → cap = 0
 ok : ∀ (i : Nat) (x : Vt), l[i]? = some x → x.Ok
 read : 0 < l.length → ∃ a o, ad = some ⟨a, o, none⟩ ∧ a < w.heap.size ∧ ∀ (i : Nat) (x : Vt), l[i]? = some x → w.rangeAt a (o + i * 42) x.C
theorem Vp.In.ext {ad : Option Addr} {cap : Nat} {l : List Vt} {w w' : World} (h : Vp.In ad cap l w) (k : Ex w w') : Vp.In ad cap l w' :=
 ⟨h.len, h.nil, h.ok, fun h0 => by
  obtain ⟨a, o, e, hB, hc⟩ := h.read h0
  exact ⟨a, o, e, Nat.lt_of_lt_of_le hB (Below.size k), fun i x hx j v hv => (Below.cell (p := ⟨a, o + i * 42 + j, none⟩) k hB).trans (hc i x hx j v hv)⟩⟩
theorem Ex.sz' {w w' : World} (h : Ex w w') : w.heap.size ≤ w'.heap.size := Below.size h
theorem tcmp_any (x : Vt) (id : List UInt8) (w : World) (hx : x.Ok) (hid : id.length = 4) : Calls Try.prog 103 #[x.V, digV id] w fun e w' => e = .returned (.int .i64 (cmpN (idn x.id) (idn id))) ∧ Ex w w' := by
 obtain ⟨cs, hcs⟩ : ∃ cs, cs = x.C.toArray := ⟨_, rfl⟩
 obtain ⟨ds, hds⟩ : ∃ ds, ds = (Lib.byteCells id).toArray := ⟨_, rfl⟩
 have A0 : Hid (VB ((w.alloc (.cells cs 36)).alloc (.cells ds 32)) w.heap.size x) := Hi ⟨hx, by rw [hcs]; exact (Bk.new rfl _ _).more _⟩
 have B0 : Hid (Bk ((w.alloc (.cells cs 36)).alloc (.cells ds 32)) (w.heap.size + 1) 32 (Lib.byteCells id).toArray) := Hi (by rw [hds]; exact Bk.new (by simp) _ _)
 have BW : Hid (Ex w ((w.alloc (.cells cs 36)).alloc (.cells ds 32))) := Hi (Ex.trans (Ex.alloc w _) (Ex.alloc _ _))
 rw [show (Calls Try.prog 103 #[x.V, digV id] w) = (Calls Try.prog 103 #[.agg cs, .agg ds] w) by rw [hcs, hds]; rfl]
 have HXI := Hi hx.idN
 have HID := Hi hid
 clear hcs hds hid hx
 go_enter Try.func103, Try.ntmps103
 go_wp2_with fail
 change Code.wp _ _ _ _ ((w.alloc (.cells cs 36)).alloc (.cells ds 32))
 generalize hw1 : ((w.alloc (.cells cs 36)).alloc (.cells ds 32)) = w1 at *
 clear hw1
 obtain ⟨g, hg⟩ : ∃ g, g = w.heap.size := ⟨_, rfl⟩
 rw [← hg] at A0 B0 ⊢
 clear hg
 obtain ⟨T, hT⟩ : ∃ T : List (Rw w1.heap.size), T = [.is (.pointer (some ⟨g, 0, none⟩)), .is (.slice (some ⟨g, 0, none⟩) 4 4), .is (.slice (some ⟨g + 1, 0, none⟩) 4 4), .is (.int .i64 (cmpN (idn x.id) (idn id))), .is (.int .i64 (cmpN (idn x.id) (idn id)))] := ⟨_, rfl⟩
 have HTY : T.map Rw.tys = ([[], [], [], [], []] : List (List Nat)) := by rw [hT]; rfl
 refine wp_region_gen (JW w1.heap.size w1 [0] T ([[], [], [], [], []] : List (List Nat)) ([none, none, none, none, none] : List (Option Nat)) ([] : List (Nat × Nat)) 100000) (by kernel_rfl) (by kernel_rfl) (by kernel_rfl) (fitB_spec (by kernel_rfl)) (fun listed f h => JW.start (Nat.le_refl _) listed f h) ?_ ?_
 ·intro i o ho
  have hi : i < 5 := (Array.getElem?_eq_some_iff.1 ho).1
  have hi' : i = 0 ∨ i = 1 ∨ i = 2 ∨ i = 3 ∨ i = 4 := by omega
  clear hi
  rcases hi' with rfl | rfl | rfl | rfl | rfl
  all_goals (simp only [List.getElem?_toArray, List.getElem?_cons_zero, List.getElem?_cons_succ, Option.some.injEq] at ho; subst ho; intro listed f a w2 hJ hsz hls hun hdep hout hlat; first | (rw [if_pos (by rfl)]; intro K hK) | skip)
  ·have q2 := hout 2 ob
   rw [gd9] at q2
   clear hsz hdep hout hlat
   go_simp
   exact hK _ _ (hJ.pl HTY hls hT rfl)
  ·have q5 := hJ.iv hT (hdep ⟨0, .data⟩ (by simp) rfl) rfl rfl _ rfl _ rfl
   clear hsz hdep hout hlat
   go_simp
   exact hK _ _ (hJ.pl HTY hls hT rfl)
  ·have q3 := hout 3 ob
   rw [gd9] at q3
   clear hsz hdep hout hlat
   go_simp
   exact hK _ _ (hJ.pl HTY hls hT rfl)
  ·have q6 := hJ.iv hT (hdep ⟨1, .data⟩ (by simp) rfl) rfl rfl _ rfl _ rfl
   have q7 := hJ.iv hT (hdep ⟨2, .data⟩ (by simp) rfl) rfl rfl _ rfl _ rfl
   clear hsz hdep hout hlat
   go_simp
   refine (bcmp4 g (g + 1) 0 0 x.id id HXI.out HID.out w2 (id_pt (A0.out.ext hJ.ext.below).2 HXI.out (Vt.id_at A0.out.1)) (id_pt (B0.out.ext hJ.ext.below) HID.out (by rw [List.drop_zero, List.take_length]))).mono ?_
   rintro e w3 ⟨rfl, rfl⟩
   exact hK _ _ (hJ.pl HTY hls hT rfl)
  have q8 := hJ.iv hT (hdep ⟨3, .data⟩ (by simp) rfl) rfl rfl _ rfl _ rfl
  clear hsz hdep hout hlat
  go_simp
  exact hK _ _ (hJ.pl HTY hls hT rfl)
 intro listed f w2 hall hJ
 have f4 : f 4 = .int .i64 (cmpN (idn x.id) (idn id)) := by
  have h := hJ.vals 4 (hall 4 (by simp)) no_c
  rw [hT] at h; exact h
 have xk := hJ.ext
 simp only [putAll, Act.put, List.setIfInBounds_toArray, List.set_cons_zero, List.set_cons_succ, Nat.zero_add, Nat.reduceAdd]
 rw [f4]
 clear f4
 clear hJ hall hT HTY
 have BX := Hi (Ex.trans BW.out (show Ex w1 w2 from xk.below))
 clear xk
 go_wp2_with fail
 go_ret
 exact ⟨rfl, BX.out⟩
def BsfPost (n : Nat) (F : Nat → Nat) (X : Nat) (w : World) (e : Ending) (w' : World) : Prop :=
 ∃ (p : Nat) (b : Bool), e = .returned (.tuple #[.int .i64 p, .bool b]) ∧ p ≤ n ∧ (∀ q, q < p → F q < X) ∧ (∀ q, p ≤ q → q < n → X ≤ F q) ∧ b = decide (p < n ∧ F p = X) ∧ Ex w w'
theorem bsf_any (ad : Option Addr) (cap : Nat) (l : List Vt) (F : Nat → Nat) (HFl : ∀ (i : Nat) (x : Vt), l[i]? = some x → F i = idn x.id) (id : List UInt8) (w : World) (h4 : l.length ≤ 4) (hid : id.length = 4) (hin : Vp.In ad cap l w) (hs : ∀ i j, i ≤ j → j < l.length → F i ≤ F j) :
  Calls Try.prog 130 #[.slice ad l.length cap, digV id, (.func (.func 103) #[] #[])] w (BsfPost l.length F (idn id) w) := by
 obtain ⟨ds, hds⟩ : ∃ ds, ds = (Lib.byteCells id).toArray := ⟨_, rfl⟩
 have B0 : Hid (Bk (w.alloc (.cells ds 32)) w.heap.size 32 (Lib.byteCells id).toArray) := Hi (by rw [hds]; exact Bk.new rfl _ _)
 have BW : Hid (Ex w (w.alloc (.cells ds 32))) := Hi (Ex.alloc w _)
 rw [show digV id = .agg ds from by rw [hds]; rfl]
 have HID := Hi hid
 have HIN := Hi (hin.ext BW.out)
 clear hin hds hid
 obtain ⟨n, hn⟩ : ∃ n, n = l.length := ⟨_, rfl⟩
 rw [← hn] at h4 hs ⊢
 have HN := Hi hn
 have HS := Hi hs
 clear hn hs
 obtain ⟨X, hX⟩ : ∃ X, X = idn id := ⟨_, rfl⟩
 have HX := Hi hX
 rw [← hX]
 clear hX
 go_enter Try.func130, Try.ntmps130
 go_wp2_with fail
 go_loopw [9, 10] (fun i j wr => ∃ a b : Nat, a ≤ b ∧ b ≤ n ∧ i = .int .i64 a ∧ j = .int .i64 b ∧ Hid (∀ q, q < a → F q < X) ∧ Hid (∀ q, b ≤ q → q < n → X ≤ F q) ∧ Hid (Ex (w.alloc (.cells ds 32)) wr)) (fun i j _ => (intOf j - intOf i).toNat)
 case atStart => exact ⟨0, n, by omega, by omega, rfl, rfl, Hi (fun j hj => by omega), Hi (fun j h1 h2 => by omega), Hi (Ex.refl _)⟩
 obtain ⟨p, q, hab, hbn, rfl, rfl, lo, hi, BX⟩ := hrel
 by_cases hlt : p < q
 ·obtain ⟨g, hg⟩ : ∃ g, g = w.heap.size := ⟨_, rfl⟩
  have B1 := Hi (B0.out.ext BX.out)
  rw [← hg] at B1 ⊢
  clear hg
  obtain ⟨m, hm⟩ : ∃ m, m = (p + q) / 2 := ⟨_, rfl⟩
  have m0 : p ≤ m := by omega
  have m1 : m < q := by omega
  have em : ((p : Int) + (q : Int)) / 2 = (m : Int) := by omega
  have EM := Hi em
  clear hm em
  have q0 : (p : Int) < (q : Int) := by omega
  have qm0 : (0 : Int) ≤ (m : Int) := by omega
  have qm1 : (m : Int) < (n : Int) := by omega
  obtain ⟨x, hx⟩ : ∃ x, l[m]? = some x := ⟨_, List.getElem?_eq_getElem (by rw [← HN.out]; omega)⟩
  have HXM := Hi (HFl m x hx)
  obtain ⟨ab, o, rfl, hab2, hra⟩ := (HIN.out.ext BX.out).read (by rw [← HN.out]; omega)
  have XR := Hi (hra m x hx)
  have XK := Hi (HIN.out.ok m x hx)
  have HAB := Hi hab2
  clear hra hab2 hx
  go_wp2_with fail
  rw [EM.out]
  obtain ⟨T, hT⟩ : ∃ T : List (Rw wr.heap.size), T = [.is (.func (.func 103) #[] #[]), .is (.slice (some ⟨ab, o, none⟩) n cap), .is (.int .i64 m), .is (.pointer (some ⟨ab, o + m * 42, none⟩)), .is (x.V), .is (digV id), .is (.int .i64 (cmpN (idn x.id) (idn id))), .is (.bool (decide (cmpN (idn x.id) (idn id) < 0)))] := ⟨_, rfl⟩
  have HTY : T.map Rw.tys = ([[], [], [], [], [], [], [], []] : List (List Nat)) := by rw [hT]; rfl
  refine wp_region_gen (JW wr.heap.size wr [0] T ([[], [], [], [], [], [], [], []] : List (List Nat)) ([none, none, none, none, none, none, none, none] : List (Option Nat)) ([] : List (Nat × Nat)) 100000) (by kernel_rfl) (by kernel_rfl) (by kernel_rfl) (fitB_spec (by kernel_rfl)) (fun listed f h => JW.start (Nat.le_refl _) listed f h) ?_ ?_
  ·intro i o ho
   have hi : i < 8 := (Array.getElem?_eq_some_iff.1 ho).1
   have hi' : i = 0 ∨ i = 1 ∨ i = 2 ∨ i = 3 ∨ i = 4 ∨ i = 5 ∨ i = 6 ∨ i = 7 := by omega
   clear hi
   rcases hi' with rfl | rfl | rfl | rfl | rfl | rfl | rfl | rfl
   all_goals (simp only [List.getElem?_toArray, List.getElem?_cons_zero, List.getElem?_cons_succ, Option.some.injEq] at ho; subst ho; intro listed f a w2 hJ hsz hls hun hdep hout hlat; first | (rw [if_pos (by rfl)]; intro K hK) | skip)
   ·have q2 := hout 2 ob
    exact wp_mw _ rfl q2 (hK _ _ (hJ.pl HTY hls hT rfl))
   ·have q0 := hout 0 ob
    exact wp_mw _ rfl q0 (hK _ _ (hJ.pl HTY hls hT rfl))
   ·have q11 := hout 11 ob
    exact wp_mw _ rfl q11 (hK _ _ (hJ.pl HTY hls hT rfl))
   ·have q25 := hJ.iv hT (hdep ⟨1, .data⟩ (by simp) rfl) rfl rfl _ rfl _ rfl
    have q26 := hJ.iv hT (hdep ⟨2, .data⟩ (by simp) rfl) rfl rfl _ rfl _ rfl
    clear hsz hdep hout hlat
    go_simp
    exact hK _ _ (hJ.pl HTY hls hT rfl)
   ·have q27 := hJ.iw hT (hdep ⟨3, .data⟩ (by simp) rfl) rfl rfl _ rfl _ rfl
    exact ld_vr (.tmp 27) ab (o + m * 42) x XK.out rfl q27 (fun j u hu => (Below.cell (p := ⟨ab, o + m * 42 + j, none⟩) hJ.ext.below HAB.out).trans (XR.out j u hu)) (hK _ _ (hJ.pl HTY hls hT rfl))
   ·have q4 := hout 4 ob
    exact ld_idb (.tmp 4) g id HID.out rfl q4 (B1.out.ext hJ.ext.below) (hK _ _ (hJ.pl HTY hls hT rfl))
   ·have q24 := hJ.iv hT (hdep ⟨0, .data⟩ (by simp) rfl) rfl rfl _ rfl _ rfl
    have q28 := hJ.iv hT (hdep ⟨4, .data⟩ (by simp) rfl) rfl rfl _ rfl _ rfl
    have q29 := hJ.iv hT (hdep ⟨5, .data⟩ (by simp) rfl) rfl rfl _ rfl _ rfl
    clear hsz hdep hout hlat
    go_simp
    refine (tcmp_any x id w2 XK.out HID.out).mono ?_
    rintro e w3 ⟨rfl, x3⟩
    exact hK _ _ (hJ.plain HTY (by rw [hls]; decide) x3 (by rw [hT]; rfl) nh)
   have q30 := hJ.iv hT (hdep ⟨6, .data⟩ (by simp) rfl) rfl rfl _ rfl _ rfl
   clear hsz hdep hout hlat
   go_simp
   exact hK _ _ (hJ.pl HTY hls hT rfl)
  intro listed f w2 hall hJ
  have f7 : f 7 = .bool (decide (cmpN (idn x.id) (idn id) < 0)) := by
   have h := hJ.vals 7 (hall 7 (by simp)) no_c
   rw [hT] at h; exact h
  have xk := hJ.ext
  simp only [putAll, Act.put, List.setIfInBounds_toArray, List.set_cons_zero, List.set_cons_succ, Nat.zero_add, Nat.reduceAdd]
  rw [f7]
  clear f7
  clear hJ hall hT HTY
  replace BX := Hi (Ex.trans BX.out (show Ex wr w2 from xk.below))
  clear xk
  have hcz : decide (cmpN (idn x.id) (idn id) < 0) = decide (F m < X) := by rw [HXM.out, HX.out]; unfold cmpN; split <;> rename_i h1 <;> (try split) <;> simp <;> omega
  rw [hcz]
  clear hcz
  by_cases yx : F m < X
  ·have lo2 : Hid (∀ q, q < m + 1 → F q < X) := Hi (fun t ht => by
    have := HS.out t m (by omega) (by omega)
    omega)
   rw [decide_eq_true yx]
   clear yx
   go_wp2_with fail
   go_roundw
   case rel => exact ⟨m + 1, q, by omega, by omega, by go_num, rfl, lo2, hi, BX⟩
   case measure => simp [intOf]; omega
  have hi2 : Hid (∀ t, m ≤ t → t < n → X ≤ F t) := Hi (fun t h1 h2 => by
   have := HS.out m t h1 h2
   omega)
  rw [decide_eq_false yx]
  clear yx
  go_wp2_with fail
  go_roundw
  case rel => exact ⟨p, m, by omega, by omega, rfl, rfl, lo, hi2, BX⟩
  case measure => simp [intOf]; omega
 obtain rfl : p = q := by omega
 clear hlt
 have q0 : ¬ (p : Int) < (p : Int) := by omega
 obtain ⟨g, hg⟩ : ∃ g, g = w.heap.size := ⟨_, rfl⟩
 have B1 := Hi (B0.out.ext BX.out)
 rw [← hg] at B1 ⊢
 clear hg
 by_cases hn : p < n
 rotate_left
 ·obtain rfl : p = n := by omega
  have q1 : ¬ (p : Int) < (p : Int) := by omega
  go_wp2_with fail
  obtain ⟨T, hT⟩ : ∃ T : List (Rw wr.heap.size), T = [.is (.int .i64 p), .is (.int .i64 p), .is (.int .i64 p), .is (.bool false), .is (.bool false), .any, .any, .any, .any, .any, .any, .any, .any, .is (.bool false), .is (.int .i64 p), .is (.bool false)] := ⟨_, rfl⟩
  have HTY : T.map Rw.tys = ([[], [], [], [], [], [], [], [], [], [], [], [], [], [], [], []] : List (List Nat)) := by rw [hT]; rfl
  refine wp_region_gen (JW wr.heap.size wr [0] T ([[], [], [], [], [], [], [], [], [], [], [], [], [], [], [], []] : List (List Nat)) ([none, none, none, none, none, none, none, none, none, none, none, none, none, none, none, none] : List (Option Nat)) ([] : List (Nat × Nat)) 100000) (by kernel_rfl) (by kernel_rfl) (by kernel_rfl) (fitB_spec (by kernel_rfl)) (fun listed f h => JW.start (Nat.le_refl _) listed f h) ?_ ?_
  ·intro i o ho
   have hi : i < 16 := (Array.getElem?_eq_some_iff.1 ho).1
   have hi' : i = 0 ∨ i = 1 ∨ i = 2 ∨ i = 3 ∨ i = 4 ∨ i = 5 ∨ i = 6 ∨ i = 7 ∨ i = 8 ∨ i = 9 ∨ i = 10 ∨ i = 11 ∨ i = 12 ∨ i = 13 ∨ i = 14 ∨ i = 15 := by omega
   clear hi
   rcases hi' with rfl | rfl | rfl | rfl | rfl | rfl | rfl | rfl | rfl | rfl | rfl | rfl | rfl | rfl | rfl | rfl
   all_goals (simp only [List.getElem?_toArray, List.getElem?_cons_zero, List.getElem?_cons_succ, Option.some.injEq] at ho; subst ho; intro listed f a w2 hJ hsz hls hun hdep hout hlat; first | (rw [if_pos (by rfl)]; intro K hK) | skip)
   ·have q9 := hout 9 ob
    exact wp_mw _ rfl q9 (hK _ _ (hJ.pl HTY hls hT rfl))
   ·have q9 := hout 9 ob
    exact wp_mw _ rfl q9 (hK _ _ (hJ.pl HTY hls hT rfl))
   ·have q8 := hout 8 ob
    exact wp_mw _ rfl q8 (hK _ _ (hJ.pl HTY hls hT rfl))
   ·have q36 := hJ.iv hT (hdep ⟨1, .data⟩ (by simp) rfl) rfl rfl _ rfl _ rfl
    have q37 := hJ.iv hT (hdep ⟨2, .data⟩ (by simp) rfl) rfl rfl _ rfl _ rfl
    clear hsz hdep hout hlat
    go_simp
    exact hK _ _ (hJ.pl HTY hls hT rfl)
   ·have q38 := hJ.iw hT (hdep ⟨3, .data⟩ (by simp) rfl) rfl rfl _ rfl _ rfl
    exact wp_mw _ rfl q38 (hK _ _ (hJ.pl HTY hls hT rfl))
   iterate 8
    focus
     have kg := hJ.iw hT (hdep ⟨4, .guard⟩ (by simp) rfl) rfl rfl _ rfl _ rfl
     rw [if_neg (not_wanted rfl rfl rfl kg (by decide))]
     exact hJ.plain HTY (by rw [hls]; decide) (Ex.refl _) (by rw [hT]; exact trivial) nh
   ·have q39 := hJ.iw hT (hdep ⟨4, .data⟩ (by simp) rfl) rfl rfl _ rfl _ rfl
    have dd47 := hdep ⟨12, .data⟩ (by simp) rfl
    have q47 := dd47.2 _ rfl _ rfl
    clear dd47
    rw [gd9] at q39 q47
    clear hsz hdep hout hlat
    go_simp
    exact hK _ _ (hJ.pl HTY hls hT rfl)
   ·have q35 := hJ.iv hT (hdep ⟨0, .data⟩ (by simp) rfl) rfl rfl _ rfl _ rfl
    clear hsz hdep hout hlat
    go_simp
    exact hK _ _ (hJ.pl HTY hls hT rfl)
   have q48 := hJ.iv hT (hdep ⟨13, .data⟩ (by simp) rfl) rfl rfl _ rfl _ rfl
   clear hsz hdep hout hlat
   go_simp
   exact hK _ _ (hJ.pl HTY hls hT rfl)
  intro listed f w2 hall hJ
  have f14 : f 14 = .int .i64 p := by
   have h := hJ.vals 14 (hall 14 (by simp)) no_c
   rw [hT] at h; exact h
  have f15 : f 15 = .bool false := by
   have h := hJ.vals 15 (hall 15 (by simp)) no_c
   rw [hT] at h; exact h
  have xk := hJ.ext
  simp only [putAll, Act.put, List.setIfInBounds_toArray, List.set_cons_zero, List.set_cons_succ, Nat.zero_add, Nat.reduceAdd]
  rw [f14, f15]
  clear f14 f15
  clear hJ hall hT HTY
  replace BX := Hi (Ex.trans BX.out (show Ex wr w2 from xk.below))
  clear xk
  go_wp2_with fail
  go_ret2
  exact ⟨p, _, rfl, hbn, lo.out, hi.out, by simp, Ex.trans BW.out BX.out⟩
 have q1 : (p : Int) < (n : Int) := by omega
 have qp0 : (0 : Int) ≤ (p : Int) := by omega
 obtain ⟨x, hx⟩ : ∃ x, l[p]? = some x := ⟨_, List.getElem?_eq_getElem (by rw [← HN.out]; omega)⟩
 have HXM := Hi (HFl p x hx)
 obtain ⟨ab, o, rfl, hab2, hra⟩ := (HIN.out.ext BX.out).read (by rw [← HN.out]; omega)
 have XR := Hi (hra p x hx)
 have XK := Hi (HIN.out.ok p x hx)
 have HAB := Hi hab2
 clear hra hab2 hx
 go_wp2_with fail
 obtain ⟨T, hT⟩ : ∃ T : List (Rw wr.heap.size), T = [.is (.int .i64 p), .is (.int .i64 p), .is (.int .i64 n), .is (.bool true), .is (.bool true), .is (.func (.func 103) #[] #[]), .is (.slice (some ⟨ab, o, none⟩) n cap), .is (.int .i64 p), .is (.pointer (some ⟨ab, o + p * 42, none⟩)), .is (x.V), .is (digV id), .is (.int .i64 (cmpN (idn x.id) (idn id))), .is (.bool (decide (F p = X))), .is (.bool (decide (F p = X))), .is (.int .i64 p), .is (.bool (decide (F p = X)))] := ⟨_, rfl⟩
 have HTY : T.map Rw.tys = ([[], [], [], [], [], [], [], [], [], [], [], [], [], [], [], []] : List (List Nat)) := by rw [hT]; rfl
 refine wp_region_gen (JW wr.heap.size wr [0] T ([[], [], [], [], [], [], [], [], [], [], [], [], [], [], [], []] : List (List Nat)) ([none, none, none, none, none, none, none, none, none, none, none, none, none, none, none, none] : List (Option Nat)) ([] : List (Nat × Nat)) 100000) (by kernel_rfl) (by kernel_rfl) (by kernel_rfl) (fitB_spec (by kernel_rfl)) (fun listed f h => JW.start (Nat.le_refl _) listed f h) ?_ ?_
 ·intro i o ho
  have hi : i < 16 := (Array.getElem?_eq_some_iff.1 ho).1
  have hi' : i = 0 ∨ i = 1 ∨ i = 2 ∨ i = 3 ∨ i = 4 ∨ i = 5 ∨ i = 6 ∨ i = 7 ∨ i = 8 ∨ i = 9 ∨ i = 10 ∨ i = 11 ∨ i = 12 ∨ i = 13 ∨ i = 14 ∨ i = 15 := by omega
  clear hi
  rcases hi' with rfl | rfl | rfl | rfl | rfl | rfl | rfl | rfl | rfl | rfl | rfl | rfl | rfl | rfl | rfl | rfl
  all_goals (simp only [List.getElem?_toArray, List.getElem?_cons_zero, List.getElem?_cons_succ, Option.some.injEq] at ho; subst ho; intro listed f a w2 hJ hsz hls hun hdep hout hlat; first | (rw [if_pos (by rfl)]; intro K hK) | skip)
  ·have q9 := hout 9 ob
   exact wp_mw _ rfl q9 (hK _ _ (hJ.pl HTY hls hT rfl))
  ·have q9 := hout 9 ob
   exact wp_mw _ rfl q9 (hK _ _ (hJ.pl HTY hls hT rfl))
  ·have q8 := hout 8 ob
   exact wp_mw _ rfl q8 (hK _ _ (hJ.pl HTY hls hT rfl))
  ·have q36 := hJ.iv hT (hdep ⟨1, .data⟩ (by simp) rfl) rfl rfl _ rfl _ rfl
   have q37 := hJ.iv hT (hdep ⟨2, .data⟩ (by simp) rfl) rfl rfl _ rfl _ rfl
   clear hsz hdep hout hlat
   go_simp
   exact hK _ _ (hJ.pl HTY hls hT rfl)
  ·have q38 := hJ.iw hT (hdep ⟨3, .data⟩ (by simp) rfl) rfl rfl _ rfl _ rfl
   exact wp_mw _ rfl q38 (hK _ _ (hJ.pl HTY hls hT rfl))
  ·have kg := hJ.iw hT (hdep ⟨4, .guard⟩ (by simp) rfl) rfl rfl _ rfl _ rfl
   rw [if_pos (wanted_of rfl rfl rfl kg)]
   clear kg
   intro K hK
   have q2 := hout 2 ob
   exact wp_mw _ rfl q2 (hK _ _ (hJ.pl HTY hls hT rfl))
  ·have kg := hJ.iw hT (hdep ⟨4, .guard⟩ (by simp) rfl) rfl rfl _ rfl _ rfl
   rw [if_pos (wanted_of rfl rfl rfl kg)]
   clear kg
   intro K hK
   have q0 := hout 0 ob
   exact wp_mw _ rfl q0 (hK _ _ (hJ.pl HTY hls hT rfl))
  ·have kg := hJ.iw hT (hdep ⟨4, .guard⟩ (by simp) rfl) rfl rfl _ rfl _ rfl
   rw [if_pos (wanted_of rfl rfl rfl kg)]
   clear kg
   intro K hK
   have q9 := hout 9 ob
   exact wp_mw _ rfl q9 (hK _ _ (hJ.pl HTY hls hT rfl))
  ·have kg := hJ.iw hT (hdep ⟨4, .guard⟩ (by simp) rfl) rfl rfl _ rfl _ rfl
   rw [if_pos (wanted_of rfl rfl rfl kg)]
   clear kg
   intro K hK
   have q41 := hJ.iv hT (hdep ⟨6, .data⟩ (by simp) rfl) rfl rfl _ rfl _ rfl
   have q42 := hJ.iv hT (hdep ⟨7, .data⟩ (by simp) rfl) rfl rfl _ rfl _ rfl
   clear hsz hdep hout hlat
   go_simp
   exact hK _ _ (hJ.pl HTY hls hT rfl)
  ·have kg := hJ.iw hT (hdep ⟨4, .guard⟩ (by simp) rfl) rfl rfl _ rfl _ rfl
   rw [if_pos (wanted_of rfl rfl rfl kg)]
   clear kg
   intro K hK
   have q43 := hJ.iw hT (hdep ⟨8, .data⟩ (by simp) rfl) rfl rfl _ rfl _ rfl
   exact ld_vr (.tmp 43) ab (o + p * 42) x XK.out rfl q43 (fun j u hu => (Below.cell (p := ⟨ab, o + p * 42 + j, none⟩) hJ.ext.below HAB.out).trans (XR.out j u hu)) (hK _ _ (hJ.pl HTY hls hT rfl))
  ·have kg := hJ.iw hT (hdep ⟨4, .guard⟩ (by simp) rfl) rfl rfl _ rfl _ rfl
   rw [if_pos (wanted_of rfl rfl rfl kg)]
   clear kg
   intro K hK
   have q4 := hout 4 ob
   exact ld_idb (.tmp 4) g id HID.out rfl q4 (B1.out.ext hJ.ext.below) (hK _ _ (hJ.pl HTY hls hT rfl))
  ·have kg := hJ.iw hT (hdep ⟨4, .guard⟩ (by simp) rfl) rfl rfl _ rfl _ rfl
   rw [if_pos (wanted_of rfl rfl rfl kg)]
   clear kg
   intro K hK
   have q40 := hJ.iv hT (hdep ⟨5, .data⟩ (by simp) rfl) rfl rfl _ rfl _ rfl
   have q44 := hJ.iv hT (hdep ⟨9, .data⟩ (by simp) rfl) rfl rfl _ rfl _ rfl
   have q45 := hJ.iv hT (hdep ⟨10, .data⟩ (by simp) rfl) rfl rfl _ rfl _ rfl
   clear hsz hdep hout hlat
   go_simp
   refine (tcmp_any x id w2 XK.out HID.out).mono ?_
   rintro e w3 ⟨rfl, x3⟩
   exact hK _ _ (hJ.plain HTY (by rw [hls]; decide) x3 (by rw [hT]; rfl) nh)
  ·have kg := hJ.iw hT (hdep ⟨4, .guard⟩ (by simp) rfl) rfl rfl _ rfl _ rfl
   rw [if_pos (wanted_of rfl rfl rfl kg)]
   clear kg
   intro K hK
   have q46 := hJ.iv hT (hdep ⟨11, .data⟩ (by simp) rfl) rfl rfl _ rfl _ rfl
   have hz : decide (cmpN (idn x.id) (idn id) = 0) = decide (F p = X) := by rw [HXM.out, HX.out]; unfold cmpN; split <;> rename_i h1 <;> (try split) <;> simp <;> omega
   clear hsz hdep hout hlat
   go_simp
   exact hK _ _ (hJ.plain HTY (by rw [hls]; decide) (Ex.refl _) (by rw [hT]; first | rfl | exact congrArg Value.bool hz | (show _ = Value.bool _; rw [← hz]; simp)) nh)
  ·have q39 := hJ.iv hT (hdep ⟨4, .data⟩ (by simp) rfl) rfl rfl _ rfl _ rfl
   have q47 := hJ.iv hT (hdep ⟨12, .data⟩ (by simp) rfl) rfl rfl _ rfl _ rfl
   clear hsz hdep hout hlat
   go_simp
   exact hK _ _ (hJ.pl HTY hls hT rfl)
  ·have q35 := hJ.iv hT (hdep ⟨0, .data⟩ (by simp) rfl) rfl rfl _ rfl _ rfl
   clear hsz hdep hout hlat
   go_simp
   exact hK _ _ (hJ.pl HTY hls hT rfl)
  have q48 := hJ.iv hT (hdep ⟨13, .data⟩ (by simp) rfl) rfl rfl _ rfl _ rfl
  clear hsz hdep hout hlat
  go_simp
  exact hK _ _ (hJ.pl HTY hls hT rfl)
 intro listed f w2 hall hJ
 have f14 : f 14 = .int .i64 p := by
  have h := hJ.vals 14 (hall 14 (by simp)) no_c
  rw [hT] at h; exact h
 have f15 : f 15 = .bool (decide (F p = X)) := by
  have h := hJ.vals 15 (hall 15 (by simp)) no_c
  rw [hT] at h; exact h
 have xk := hJ.ext
 simp only [putAll, Act.put, List.setIfInBounds_toArray, List.set_cons_zero, List.set_cons_succ, Nat.zero_add, Nat.reduceAdd]
 rw [f14, f15]
 clear f14 f15
 clear hJ hall hT HTY
 replace BX := Hi (Ex.trans BX.out (show Ex wr w2 from xk.below))
 clear xk
 go_wp2_with fail
 go_ret2
 exact ⟨p, _, rfl, hbn, lo.out, hi.out, by simp [hn], Ex.trans BW.out BX.out⟩
end Go.Proofs.Ytmjfnpmnhehnkaa
namespace Go.Proofs.Ytmjfnpmnhehnkaa
open Go.RowKit
section
variable {P : Program} {ops : Array Oper} {rest : List Oper} {d : Option Tmp} {t2 : TypeId} {pos : String} {af : Array Edge} {g : Option (Nat × Bool)} {a : Act} {w : World} {Q : Exit → Act → World → Prop}
theorem stop_bs {t : TypeId} {n : Nat} {fs : Array (Nat × Operand)} (k : Stop (wpList P ops Q ({ dst := d, op := .buildSlice t n fs, type := t2, pos := pos, after := af, guard := g } :: rest) a w)) : wpList P ops Q ({ dst := d, op := .buildSlice t n fs, type := t2, pos := pos, after := af, guard := g } :: rest) a w := k.go
theorem stop_app {x y : Operand} {ts : Array TypeId} (k : Stop (wpList P ops Q ({ dst := d, op := .call { callee := .builtin .append, args := #[x, y], argTypes := ts }, type := t2, pos := pos, after := af, guard := g } :: rest) a w)) : wpList P ops Q ({ dst := d, op := .call { callee := .builtin .append, args := #[x, y], argTypes := ts }, type := t2, pos := pos, after := af, guard := g } :: rest) a w := k.go
end
theorem wp_bsv {o : Oper} {a : Act} {w : World} {K : Act → World → Prop} {Q : Exit → Act → World → Prop} (y : Operand) (x : Vt) (hx : x.Ok) (ho : o.op = .buildSlice 37 1 #[(0, y)]) (hy : a.eval y = x.V)
  (hk : K (a.put o.dst (.slice (some ⟨w.heap.size, 0, none⟩) 1 1)) (w.alloc (.cells x.C.toArray 36))) : o.wp Try.prog a w K Q := by
 have h1 := hx.idN; have h2 := hx.pinN; have h3 := hx.ownN
 obtain ⟨id, gen, pin, ⟨ad, cap, sec⟩, lim, used, own, gone, wiped⟩ := x
 obtain ⟨i0, i1, i2, i3, rfl⟩ := len4 h1
 obtain ⟨p0, p1, p2, p3, p4, p5, p6, p7, p8, p9, p10, p11, p12, p13, p14, p15, rfl⟩ := len16 h2
 obtain ⟨o0, o1, o2, o3, o4, o5, o6, o7, o8, o9, o10, o11, o12, o13, o14, o15, rfl⟩ := len16 h3
 have hy : a.eval y = .agg #[.int .u8 i0.toNat, .int .u8 i1.toNat, .int .u8 i2.toNat, .int .u8 i3.toNat, .int .u64 gen, .int .u8 p0.toNat, .int .u8 p1.toNat, .int .u8 p2.toNat, .int .u8 p3.toNat, .int .u8 p4.toNat, .int .u8 p5.toNat, .int .u8 p6.toNat, .int .u8 p7.toNat, .int .u8 p8.toNat, .int .u8 p9.toNat, .int .u8 p10.toNat, .int .u8 p11.toNat, .int .u8 p12.toNat, .int .u8 p13.toNat, .int .u8 p14.toNat, .int .u8 p15.toNat, .slice ad sec.length cap, .int .i64 lim, .int .i64 used, .int .u8 o0.toNat, .int .u8 o1.toNat, .int .u8 o2.toNat, .int .u8 o3.toNat, .int .u8 o4.toNat, .int .u8 o5.toNat, .int .u8 o6.toNat, .int .u8 o7.toNat, .int .u8 o8.toNat, .int .u8 o9.toNat, .int .u8 o10.toNat, .int .u8 o11.toNat, .int .u8 o12.toNat, .int .u8 o13.toNat, .int .u8 o14.toNat, .int .u8 o15.toNat, .bool gone, .bool wiped] := hy
 unfold Oper.wp
 obtain ⟨ev, hev⟩ : ∃ ev, ev = a.eval := ⟨_, rfl⟩
 rw [← hev] at hy ⊢
 clear hev
 unfold execOp
 simp only [ho]
 simp [hy, go_sem]
 go_simp
 exact hk
theorem vflat_len : ∀ (l : List Vt) (_ : ∀ (i : Nat) (x : Vt), l[i]? = some x → x.Ok), (l.flatMap Vt.C).length = l.length * 42
 | [], _ => rfl
 | x :: r, H => by rw [List.flatMap_cons, List.length_append, vflat_len r (fun k z hz => H (k + 1) z (by simpa using hz)), Vt.len (H 0 x rfl), List.length_cons]; omega
theorem vflat_at : ∀ (l : List Vt) (_ : ∀ (i : Nat) (x : Vt), l[i]? = some x → x.Ok) (i j : Nat) (x : Vt), l[i]? = some x → j < 42 → (l.flatMap Vt.C)[i * 42 + j]? = x.C[j]?
 | [], _, _, _, _, h, _ => by simp at h
 | y :: r, H, 0, j, x, h, hj => by
  obtain rfl : y = x := by simpa using h
  rw [List.flatMap_cons, List.getElem?_append_left (by rw [Vt.len (H 0 y rfl)]; omega)]
  congr 1; omega
 | y :: r, H, i + 1, j, x, h, hj => by
  have hy := Vt.len (H 0 y rfl)
  rw [List.flatMap_cons, List.getElem?_append_right (by omega), hy, show (i + 1) * 42 + j - 42 = i * 42 + j by omega]
  exact vflat_at r (fun k z hz => H (k + 1) z (by simpa using hz)) i j x (by simpa using h) hj
theorem Vt.C_one (x : Vt) : ∀ u ∈ x.C, u.oneCell' = true := by
 have := x.ones
 rw [List.all_toArray] at this
 exact List.all_eq_true.1 this
theorem vflat_one (ls : List Vt) : ∀ u ∈ ls.flatMap Vt.C, u.oneCell' = true := by
 intro u hu
 rw [List.mem_flatMap] at hu
 obtain ⟨x, _, hx⟩ := hu
 exact x.C_one u hx
theorem Try.infoVt : (Try.prog.info? 36).map (fun i => (i.zero, i.size, i.bytes)) = some (some zeroVt.V, 42, 96) := by kernel_rfl
structure TVN (w : World) (x : Vt) : Prop where
 ok : x.Ok
 sec : PN w 0 x.sec
 len : x.sec.l.length ≤ 64
theorem TVN.ext {w w' : World} {x : Vt} (h : TVN w x) (k : Ex w w') : TVN w' x := ⟨h.ok, h.sec.ext k, h.len⟩
theorem PN.kt {S : List Nat} {B B' : Nat} {w w' : World} {p : Pt} (h : PN w B' p) (k : Kt S B w w') (hs : 5 ∉ S) : PN w' B' p := by
 refine ⟨⟨h.1.cap, h.1.nil, fun h0 => ?_⟩, fun a e => ⟨(h.2 a e).1, (h.2 a e).2.elim fun cs hc => ⟨cs, k.bk hc hs⟩⟩⟩
 obtain ⟨a, o, e, hB, hc⟩ := h.1.read h0
 obtain ⟨_, cs, hb⟩ := h.2 _ e
 refine ⟨a, o, e, Nat.lt_of_lt_of_le hB k.size, fun i hi => ?_⟩
 rw [← hc i hi]
 have h2 := k.bk hb hs
 unfold Bk at hb h2
 simp only [World.cell?, h2, hb]
theorem TVN.kt {S : List Nat} {B : Nat} {w w' : World} {x : Vt} (h : TVN w x) (k : Kt S B w w') (hs : 5 ∉ S) : TVN w' x := ⟨h.ok, h.sec.kt k hs, h.len⟩
theorem TVN.vi {w : World} {x : Vt} (h : TVN w x) : VI w x := ⟨h.ok, h.sec.1⟩
structure VRow (w : World) (B : Nat) (v : Value) (xs : List Vt) : Prop where
 row : w.ownsRow B 36 42 v xs.length (xs.flatMap Vt.C)
 ins : ∀ (i : Nat) (x : Vt), xs[i]? = some x → TVN w x
theorem VRow.nil (w : World) (B : Nat) : VRow w B (.slice none 0 0) [] := ⟨World.ownsRow_nil _ _ _ _, fun i x hx => by simp at hx⟩
theorem VRow.ext {w w' : World} {B : Nat} {v : Value} {xs : List Vt} (h : VRow w B v xs) (k : Ex w w') : VRow w' B v xs := ⟨k.row h.row, fun i x hx => (h.ins i x hx).ext k⟩
theorem VRow.less {w : World} {B B' : Nat} {v : Value} {xs : List Vt} (h : VRow w B v xs) (k : B' ≤ B) : VRow w B' v xs := ⟨rown_less h.row k, h.ins⟩
theorem VRow.inn {w : World} {B : Nat} {v : Value} {xs : List Vt} (h : VRow w B v xs) : ∃ ad cap, v = .slice ad xs.length cap ∧ Vp.In ad cap xs w := by
 have hok : ∀ (i : Nat) (x : Vt), xs[i]? = some x → x.Ok := fun i x hx => (h.ins i x hx).ok
 obtain ⟨⟨h1, ⟨hv, h0⟩ | ⟨g, cap, cur, rfl, hb, hh, hc, hm, hs, ht⟩⟩, hin⟩ := h
 ·exact ⟨none, 0, by rw [h0]; exact hv, ⟨by rw [h0]; exact Nat.le_refl 0, fun _ => rfl, hok, fun h => by omega⟩⟩
 refine ⟨some ⟨g, 0, none⟩, cap, rfl, ⟨hc, (fun h => by cases h), hok, fun _ => ⟨g, 0, rfl, (show Bk w g 36 cur from hh).lt, fun i x hx j u hu => ?_⟩⟩⟩
 have hil : i < xs.length := (List.getElem?_eq_some_iff.1 hx).1
 have hj : j < 42 := by have := (List.getElem?_eq_some_iff.1 hu).1; rw [Vt.len (hok i x hx)] at this; exact this
 have h3 := vflat_at xs hok i j x hx hj
 rw [← ht, hu, List.getElem?_take, if_pos (by omega)] at h3
 rw [(show Bk w g 36 cur from hh).cell, Nat.zero_add, ← Array.getElem?_toList]
 exact h3
theorem VRow.app {w w2 : World} {B : Nat} {v v' : Value} {xs : List Vt} {z : Vt} (h : VRow w B v xs) (k : Kt [36] B w w2) (hr : w2.ownsRow B 36 42 v' (xs.length + 1) (xs.flatMap Vt.C ++ z.C)) (hz : TVN w z) : VRow w2 B v' (xs ++ [z]) :=
 ⟨by rw [List.length_append, List.flatMap_append]; simpa using hr, fun i x hx => by
  rcases List.mem_append.1 (List.mem_of_getElem? hx) with h1 | h1
  ·obtain ⟨j, hj, e⟩ := List.getElem_of_mem h1
   exact (h.ins j x (by rw [List.getElem?_eq_getElem hj, e])).kt k (by decide)
  ·rw [List.mem_singleton.1 h1]; exact hz.kt k (by decide)⟩
def idF (vs : List Vt) (i : Nat) : Nat := idn (vs.getD i zeroVt).id
theorem idF_at (vs : List Vt) (i : Nat) (x : Vt) (h : vs[i]? = some x) : idF vs i = idn x.id := by unfold idF; rw [List.getD_eq_getElem?_getD, h]; rfl
structure TB (w : World) (T : Nat) (rv : Value) (vs : List Vt) : Prop where
 blk : Bk w T 169 #[rv]
 row : VRow w (T + 1) rv vs
 len : vs.length ≤ 4
 srt : ∀ i j, i < j → j < vs.length → idF vs i < idF vs j
theorem TB.ext {w w' : World} {T : Nat} {rv : Value} {vs : List Vt} (h : TB w T rv vs) (k : Ex w w') : TB w' T rv vs := ⟨h.blk.ext k, h.row.ext k, h.len, h.srt⟩
theorem TB.mono {w : World} {T : Nat} {rv : Value} {vs : List Vt} (h : TB w T rv vs) : ∀ i j, i ≤ j → j < vs.length → idF vs i ≤ idF vs j := fun i j hij hj => by
 rcases Nat.eq_or_lt_of_le hij with e | e
 ·rw [e]; exact Nat.le_refl _
 ·exact Nat.le_of_lt (h.srt i j e hj)
theorem tnew_any (w : World) : Calls Try.prog 58 #[] w fun e w' => ∃ D, e = .returned (.pointer (some ⟨D, 0, none⟩)) ∧ w.heap.size ≤ D ∧ TB w' D (.slice none 0 0) [] ∧ Ex w w' := by
 go_enter Try.func58, Try.ntmps58
 go_wp2_with fail
 go_ret
 exact ⟨w.heap.size, rfl, Nat.le_refl _, ⟨Bk.new rfl _ _, VRow.nil _ _, by decide, fun i j _ hj => absurd hj (Nat.not_lt_zero j)⟩, Ex.alloc _ _⟩
theorem tlen_any (D : Nat) (rv : Value) (vs : List Vt) (w : World) (h : TB w D rv vs) : Calls Try.prog 79 #[.pointer (some ⟨D, 0, none⟩)] w fun e w' => e = .returned (.int .i64 vs.length) ∧ w = w' := by
 obtain ⟨ad, cap, rfl, _⟩ := h.row.inn
 have c0 : w.cell? ⟨D, 0, none⟩ = some (.slice ad vs.length cap) := h.blk.cell 0
 clear h
 generalize vs.length = n at *
 go_enter Try.func79, Try.ntmps79
 go_wp2_with fail
 go_ret
 exact ⟨rfl, rfl⟩
def BI (n : Nat) (F : Nat → Nat) (X p : Nat) : Prop := p ≤ n ∧ (∀ q, q < p → F q < X) ∧ (∀ q, p ≤ q → q < n → X ≤ F q)
def BQ (n : Nat) (F : Nat → Nat) (X p : Nat) (b : Bool) : Prop := BI n F X p ∧ b = decide (∃ q, q < n ∧ F q = X)
theorem bq_found {n : Nat} {F : Nat → Nat} {X p : Nat} {b : Bool} (z1 : p ≤ n) (z2 : ∀ q, q < p → F q < X) (z3 : ∀ q, p ≤ q → q < n → X ≤ F q) (z4 : b = decide (p < n ∧ F p = X)) (hm : ∀ i j, i ≤ j → j < n → F i ≤ F j) : b = decide (∃ q, q < n ∧ F q = X) := by
 rw [z4]
 congr 1
 apply propext
 refine ⟨fun ⟨h1, h2⟩ => ⟨p, h1, h2⟩, fun ⟨q, h1, h2⟩ => ?_⟩
 have hq : p ≤ q := by
  rcases Nat.lt_or_ge q p with h | h
  ·have := z2 q h; omega
  ·exact h
 have h3 := z3 p (Nat.le_refl _) (by omega)
 have h4 := hm p q hq h1
 exact ⟨by omega, by omega⟩
def FindPost (n : Nat) (F : Nat → Nat) (X : Nat) (w : World) (e : Ending) (w' : World) : Prop :=
 ∃ p : Nat, e = .returned (.tuple #[.int .i64 p, .bool (decide (∃ q, q < n ∧ F q = X))]) ∧ BI n F X p ∧ Ex w w'
theorem find_any (D : Nat) (rv : Value) (vs : List Vt) (id : List UInt8) (w : World) (h : TB w D rv vs) (hid : id.length = 4) : Calls Try.prog 100 #[.pointer (some ⟨D, 0, none⟩), digV id] w (FindPost vs.length (idF vs) (idn id) w) := by
 obtain ⟨ds, hds⟩ : ∃ ds, ds = (Lib.byteCells id).toArray := ⟨_, rfl⟩
 have B0 : Hid (Bk (w.alloc (.cells ds 32)) w.heap.size 32 (Lib.byteCells id).toArray) := Hi (by rw [hds]; exact Bk.new rfl _ _)
 have BW : Hid (Ex w (w.alloc (.cells ds 32))) := Hi (Ex.alloc w _)
 have CB := Hi (fun (w1 : World) (k : Ex w w1) (ad : Option Addr) (cap : Nat) (hin : Vp.In ad cap vs w1) => bsf_any ad cap vs (idF vs) (idF_at vs) id w1 h.len hid hin h.mono)
 have HMN := Hi h.mono
 have HTB := Hi (h.ext BW.out)
 obtain ⟨ad, cap, rfl, _⟩ := h.row.inn
 have HID := Hi hid
 rw [show (Calls Try.prog 100 #[.pointer (some ⟨D, 0, none⟩), digV id] w) = (Calls Try.prog 100 #[.pointer (some ⟨D, 0, none⟩), .agg ds] w) by rw [hds]; rfl]
 obtain ⟨n, hn⟩ : ∃ n, n = vs.length := ⟨_, rfl⟩
 rw [← hn] at HTB CB HMN ⊢
 have HN := Hi hn
 clear hn
 clear hds hid h
 go_enter Try.func100, Try.ntmps100
 go_wp2_with fail
 change Code.wp _ _ _ _ (w.alloc (.cells ds 32))
 generalize hw1 : (w.alloc (.cells ds 32)) = w1 at *
 clear hw1
 obtain ⟨g, hg⟩ : ∃ g, g = w.heap.size := ⟨_, rfl⟩
 rw [← hg] at B0 ⊢
 clear hg
 obtain ⟨T, hT⟩ : ∃ T : List (Rw w1.heap.size), T = [.is (.pointer (some ⟨D, 0, none⟩)), .is (.pointer (some ⟨D, 0, none⟩)), .is (.pointer (some ⟨D, 0, none⟩)), .is (.slice ad n cap), .is (digV id), ⟨[], fun v _ => ∃ (p : Nat) (b : Bool), v = .tuple #[.int .i64 p, .bool b] ∧ BQ n (idF vs) (idn id) p b, fun _ _ _ _ h _ _ => h⟩, ⟨[], fun v _ => ∃ (p : Nat), v = .int .i64 p ∧ BI n (idF vs) (idn id) p, fun _ _ _ _ h _ _ => h⟩, ⟨[], fun v _ => v = .bool (decide (∃ q, q < n ∧ idF vs q = idn id)), fun _ _ _ _ h _ _ => h⟩, ⟨[], fun v _ => ∃ (p : Nat), v = .int .i64 p ∧ BI n (idF vs) (idn id) p, fun _ _ _ _ h _ _ => h⟩, ⟨[], fun v _ => v = .bool (decide (∃ q, q < n ∧ idF vs q = idn id)), fun _ _ _ _ h _ _ => h⟩] := ⟨_, rfl⟩
 have HTY : T.map Rw.tys = ([[], [], [], [], [], [], [], [], [], []] : List (List Nat)) := by rw [hT]; rfl
 refine wp_region_gen (JW w1.heap.size w1 [0] T ([[], [], [], [], [], [], [], [], [], []] : List (List Nat)) ([none, none, none, none, none, none, none, none, none, none] : List (Option Nat)) ([] : List (Nat × Nat)) 100000) (by kernel_rfl) (by kernel_rfl) (by kernel_rfl) (fitB_spec (by kernel_rfl)) (fun listed f h => JW.start (Nat.le_refl _) listed f h) ?_ ?_
 ·intro i o ho
  have hi : i < 10 := (Array.getElem?_eq_some_iff.1 ho).1
  have hi' : i = 0 ∨ i = 1 ∨ i = 2 ∨ i = 3 ∨ i = 4 ∨ i = 5 ∨ i = 6 ∨ i = 7 ∨ i = 8 ∨ i = 9 := by omega
  clear hi
  rcases hi' with rfl | rfl | rfl | rfl | rfl | rfl | rfl | rfl | rfl | rfl
  all_goals (simp only [List.getElem?_toArray, List.getElem?_cons_zero, List.getElem?_cons_succ, Option.some.injEq] at ho; subst ho; intro listed f a w2 hJ hsz hls hun hdep hout hlat; first | (rw [if_pos (by rfl)]; intro K hK) | skip)
  ·have q0 := hout 0 ob
   exact wp_mw _ rfl q0 (hK _ _ (hJ.pl HTY hls hT rfl))
  ·have q6 := hJ.iv hT (hdep ⟨0, .data⟩ (by simp) rfl) rfl rfl _ rfl _ rfl
   clear hsz hdep hout hlat
   go_simp
   exact hK _ _ (hJ.pl HTY hls hT rfl)
  ·have q7 := hJ.iv hT (hdep ⟨1, .data⟩ (by simp) rfl) rfl rfl _ rfl _ rfl
   clear hsz hdep hout hlat
   go_simp
   exact hK _ _ (hJ.pl HTY hls hT rfl)
  ·have q8 := hJ.iw hT (hdep ⟨2, .data⟩ (by simp) rfl) rfl rfl _ rfl _ rfl
   have c1 : w2.cell? ⟨D, 0, none⟩ = some (.slice ad n cap) := (HTB.out.ext hJ.ext.below).blk.cell 0
   rw [gd9] at q8
   clear hsz hdep hout hlat
   go_simp
   exact hK _ _ (hJ.pl HTY hls hT rfl)
  ·have q3 := hout 3 ob
   exact ld_idb (.tmp 3) g id HID.out rfl q3 (B0.out.ext hJ.ext.below) (hK _ _ (hJ.pl HTY hls hT rfl))
  ·have q9 := hJ.iv hT (hdep ⟨3, .data⟩ (by simp) rfl) rfl rfl _ rfl _ rfl
   have q10 := hJ.iv hT (hdep ⟨4, .data⟩ (by simp) rfl) rfl rfl _ rfl _ rfl
   have hin : Vp.In ad cap vs w2 := by
    obtain ⟨ad2, cap2, e2, h2⟩ := (HTB.out.ext hJ.ext.below).row.inn
    cases e2; exact h2
   clear hsz hdep hout hlat
   go_simp
   refine (CB.out w2 (Ex.trans BW.out hJ.ext.below) ad cap hin).mono ?_
   rintro e w3 ⟨p, b, rfl, z1, z2, z3, z4, x3⟩
   exact hK _ _ (hJ.plain HTY (by rw [hls]; decide) x3 (by rw [hT]; exact ⟨p, b, rfl, ⟨⟨z1, z2, z3⟩, bq_found z1 z2 z3 z4 HMN.out⟩⟩) nh)
  ·have dd11 := hdep ⟨5, .data⟩ (by simp) rfl
   have q11 := dd11.2 _ rfl _ rfl
   have h11 := hJ.vals 5 dd11.1 no_c
   rw [hT] at h11
   have h11 : (fun v _ => ∃ (p : Nat) (b : Bool), v = .tuple #[.int .i64 p, .bool b] ∧ BQ n (idF vs) (idn id) p b) (f 5) w2 := h11
   obtain ⟨p11, b11, e11, z11⟩ := h11
   rw [e11] at q11
   clear dd11
   rw [gd9] at q11
   clear hsz hdep hout hlat
   go_simp
   exact hK _ _ (hJ.plain HTY (by rw [hls]; decide) (Ex.refl _) (by rw [hT]; exact ⟨p11, rfl, z11.1⟩) nh)
  ·have dd11 := hdep ⟨5, .data⟩ (by simp) rfl
   have q11 := dd11.2 _ rfl _ rfl
   have h11 := hJ.vals 5 dd11.1 no_c
   rw [hT] at h11
   have h11 : (fun v _ => ∃ (p : Nat) (b : Bool), v = .tuple #[.int .i64 p, .bool b] ∧ BQ n (idF vs) (idn id) p b) (f 5) w2 := h11
   obtain ⟨p11, b11, e11, z11⟩ := h11
   rw [e11] at q11
   clear dd11
   rw [gd9] at q11
   clear hsz hdep hout hlat
   go_simp
   exact hK _ _ (hJ.plain HTY (by rw [hls]; decide) (Ex.refl _) (by rw [hT]; exact congrArg Value.bool z11.2) nh)
  ·have dd12 := hdep ⟨6, .data⟩ (by simp) rfl
   have q12 := dd12.2 _ rfl _ rfl
   have h12 := hJ.vals 6 dd12.1 no_c
   rw [hT] at h12
   have h12 : (fun v _ => ∃ (p : Nat), v = .int .i64 p ∧ BI n (idF vs) (idn id) p) (f 6) w2 := h12
   obtain ⟨p12, e12, z12⟩ := h12
   rw [e12] at q12
   clear dd12
   rw [gd9] at q12
   clear hsz hdep hout hlat
   go_simp
   exact hK _ _ (hJ.plain HTY (by rw [hls]; decide) (Ex.refl _) (by rw [hT]; exact ⟨p12, rfl, z12⟩) nh)
  have dd13 := hdep ⟨7, .data⟩ (by simp) rfl
  have q13 := dd13.2 _ rfl _ rfl
  have h13 := hJ.vals 7 dd13.1 no_c
  rw [hT] at h13
  have h13 : (fun v _ => v = .bool (decide (∃ q, q < n ∧ idF vs q = idn id))) (f 7) w2 := h13
  rw [show f 7 = _ from h13] at q13
  clear dd13
  rw [gd9] at q13
  clear hsz hdep hout hlat
  go_simp
  exact hK _ _ (hJ.pl HTY hls hT rfl)
 intro listed f w2 hall hJ
 have o8 := hJ.vals 8 (hall 8 (by simp)) no_c
 rw [hT] at o8
 have o8 : (fun v _ => ∃ (p : Nat), v = .int .i64 p ∧ BI n (idF vs) (idn id) p) (f 8) w2 := o8
 have o9 := hJ.vals 9 (hall 9 (by simp)) no_c
 rw [hT] at o9
 have o9 : (fun v _ => v = .bool (decide (∃ q, q < n ∧ idF vs q = idn id))) (f 9) w2 := o9
 have xk := hJ.ext
 simp only [putAll, Act.put, List.setIfInBounds_toArray, List.set_cons_zero, List.set_cons_succ, Nat.zero_add, Nat.reduceAdd]
 generalize f 8 = np at o8 ⊢
 generalize f 9 = nb at o9 ⊢
 clear hJ hall hT HTY
 have BX := Hi (Ex.trans BW.out (show Ex w1 w2 from xk.below))
 clear xk
 obtain ⟨p, rfl, hbi⟩ := o8
 rw [show nb = _ from o9]
 have HBI := Hi hbi
 clear hbi o9
 go_wp2_with fail
 go_ret2
 exact ⟨p, rfl, HBI.out, BX.out⟩
end Go.Proofs.Ytmjfnpmnhehnkaa
