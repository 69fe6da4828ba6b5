/- Tb -/
import Derived.Test.YtmjfnpmnhehnkaaXae
namespace Go.Proofs.Ytmjfnpmnhehnkaa
open Go.RowKit
theorem bcmp4 (g h a b : Nat) (x y : List UInt8) (hx : x.length = 4) (hy : y.length = 4) (w : World) (h1 : (Pt.mk (some ⟨g, a, none⟩) 4 x).In w w.heap.size) (h2 : (Pt.mk (some ⟨h, b, none⟩) 4 y).In w w.heap.size) :
  Calls Try.prog 134 #[.slice (some ⟨g, a, none⟩) 4 4, .slice (some ⟨h, b, none⟩) 4 4] w fun e w' => e = .returned (.int .i64 (cmpN (idn x) (idn y))) ∧ w = w' := by
 have := bcmp_any _ _ w h1 h2
 unfold Pt.V at this
 simp only [hx, hy] at this
 rw [cmp_idn hx hy] at this
 exact this
/-- the bytes of an ID that a block begins with -/
theorem id_pt {w : World} {g o : Nat} {t : TypeId} {C : List Value} {x : List UInt8} (hb : Bk w g t C.toArray) (hx : x.length = 4) (hc : (C.drop o).take (Lib.byteCells x).length = Lib.byteCells x) : (Pt.mk (some ⟨g, o, none⟩) 4 x).In w w.heap.size := by
 have hr := hb.part o (Lib.byteCells x) hc
 exact ⟨by show x.length ≤ 4; omega, (fun h => by cases h), fun _ => ⟨g, o, rfl, hb.lt, fun i hi => by
  have hi' : i < x.length := hi
  rw [hr i _ (byteCells_get x i hi')]
  simp [List.getD, hi']⟩⟩
theorem ld_idb {o : Oper} {a : Act} {w : World} {K : Act → World → Prop} {Q : Exit → Act → World → Prop} (y : Operand) (g : Nat) (x : List UInt8) (hx : x.length = 4) (ho : o.op = .load 32 y) (ha : a.eval y = .pointer (some ⟨g, 0, none⟩)) (h : Bk w g 32 (Lib.byteCells x).toArray) (hk : K (a.put o.dst (digV x)) w) : o.wp Try.prog a w K Q := by
 obtain ⟨dd, hd⟩ : ∃ d, Try.prog.underlying 32 = some d ∧ d.isRow = true := ⟨_, Try.underlying32, rfl⟩
 exact wp_load_mid 32 y ho g 0 ha (Lib.byteCells x) dd h.range hd.1 hd.2 (by rw [Try.sizeId, byteCells_len, hx]) hk
theorem ld_vr {o : Oper} {a : Act} {w : World} {K : Act → World → Prop} {Q : Exit → Act → World → Prop} (y : Operand) (g off : Nat) (x : Vt) (hx : x.Ok) (ho : o.op = .load 36 y) (ha : a.eval y = .pointer (some ⟨g, off, none⟩)) (h : w.rangeAt g off x.C) (hk : K (a.put o.dst x.V) w) : o.wp Try.prog a w K Q := by
 obtain ⟨dd, hd⟩ : ∃ d, Try.prog.underlying 36 = some d ∧ d.isRow = true := ⟨_, Try.underlying36, rfl⟩
 exact wp_load_mid 36 y ho g off ha x.C dd h hd.1 hd.2 (by rw [Try.sizeVt, Vt.len hx]) hk
/-- a row of vaults that is read -/
structure Vp.In (ad : Option Addr) (cap : Nat) (l : List Vt) (w : World) : Prop where
 len : l.length ≤ cap
 nil : ad = none → cap = 0
 ok : ∀ (i : Nat) (x : Vt), l[i]? = some x → x.Ok
 read : 0 < l.length → ∃ a o, ad = some ⟨a, o, none⟩ ∧ a < w.heap.size ∧ ∀ (i : Nat) (x : Vt), l[i]? = some x → w.rangeAt a (o + i * 42) x.C
theorem Vp.In.ext {ad : Option Addr} {cap : Nat} {l : List Vt} {w w' : World} (h : Vp.In ad cap l w) (k : Ex w w') : Vp.In ad cap l w' :=
 ⟨h.len, h.nil, h.ok, fun h0 => by
  obtain ⟨a, o, e, hB, hc⟩ := h.read h0
  exact ⟨a, o, e, Nat.lt_of_lt_of_le hB (Below.size k), fun i x hx j v hv => (Below.cell (p := ⟨a, o + i * 42 + j, none⟩) k hB).trans (hc i x hx j v hv)⟩⟩
theorem Ex.sz' {w w' : World} (h : Ex w w') : w.heap.size ≤ w'.heap.size := Below.size h
set_option maxHeartbeats 4000000 in
set_option maxRecDepth 100000 in
theorem tcmp_any (x : Vt) (id : List UInt8) (w : World) (hx : x.Ok) (hid : id.length = 4) : Calls Try.prog 103 #[x.V, digV id] w fun e w' => e = .returned (.int .i64 (cmpN (idn x.id) (idn id))) ∧ Ex w w' := by
 obtain ⟨cs, hcs⟩ : ∃ cs, cs = x.C.toArray := ⟨_, rfl⟩
 obtain ⟨ds, hds⟩ : ∃ ds, ds = (Lib.byteCells id).toArray := ⟨_, rfl⟩
 have A0 : Hid (VB ((w.alloc (.cells cs 36)).alloc (.cells ds 32)) w.heap.size x) := Hi ⟨hx, by rw [hcs]; exact (Bk.new rfl _ _).more _⟩
 have B0 : Hid (Bk ((w.alloc (.cells cs 36)).alloc (.cells ds 32)) (w.heap.size + 1) 32 (Lib.byteCells id).toArray) := Hi (by rw [hds]; exact Bk.new (by simp) _ _)
 have BW : Hid (Ex w ((w.alloc (.cells cs 36)).alloc (.cells ds 32))) := Hi (Ex.trans (Ex.alloc w _) (Ex.alloc _ _))
 rw [show (Calls Try.prog 103 #[x.V, digV id] w) = (Calls Try.prog 103 #[.agg cs, .agg ds] w) by rw [hcs, hds]; rfl]
 have HXI := Hi hx.idN
 have HID := Hi hid
 clear hcs hds hid hx
 go_enter Try.func103, Try.ntmps103
 go_wp2_with fail
 change Code.wp _ _ _ _ ((w.alloc (.cells cs 36)).alloc (.cells ds 32))
 generalize hw1 : ((w.alloc (.cells cs 36)).alloc (.cells ds 32)) = w1 at *
 clear hw1
 obtain ⟨g, hg⟩ : ∃ g, g = w.heap.size := ⟨_, rfl⟩
 rw [← hg] at A0 B0 ⊢
 clear hg
 obtain ⟨T, hT⟩ : ∃ T : List (Rw w1.heap.size), T = [.is (.pointer (some ⟨g, 0, none⟩)), .is (.slice (some ⟨g, 0, none⟩) 4 4), .is (.slice (some ⟨g + 1, 0, none⟩) 4 4), .is (.int .i64 (cmpN (idn x.id) (idn id))), .is (.int .i64 (cmpN (idn x.id) (idn id)))] := ⟨_, rfl⟩
 have HTY : T.map Rw.tys = ([[], [], [], [], []] : List (List Nat)) := by rw [hT]; rfl
 refine wp_region_gen (JW w1.heap.size w1 [0] T ([[], [], [], [], []] : List (List Nat)) ([none, none, none, none, none] : List (Option Nat)) ([] : List (Nat × Nat)) 100000) (by kernel_rfl) (by kernel_rfl) (by kernel_rfl) (fitB_spec (by kernel_rfl)) (fun listed f h => JW.start (Nat.le_refl _) listed f h) ?_ ?_
 ·intro i o ho
  have hi : i < 5 := (Array.getElem?_eq_some_iff.1 ho).1
  have hi' : i = 0 ∨ i = 1 ∨ i = 2 ∨ i = 3 ∨ i = 4 := by omega
  clear hi
  rcases hi' with rfl | rfl | rfl | rfl | rfl
  all_goals (simp only [List.getElem?_toArray, List.getElem?_cons_zero, List.getElem?_cons_succ, Option.some.injEq] at ho; subst ho; intro listed f a w2 hJ hsz hls hun hdep hout hlat; first | (rw [if_pos (by rfl)]; intro K hK) | skip)
  ·have q2 := hout 2 (outB_spec (by kernel_rfl))
   rw [Array.getD_eq_getD_getElem?] at q2
   clear hsz hdep hout hlat
   go_simp
   exact hK _ _ (hJ.plain HTY (by rw [hls]; decide) (Ex.refl _) (by rw [hT]; rfl) (no_head (by decide)))
  ·have dd5 := hdep ⟨0, .data⟩ (by simp) rfl
   have q5 := dd5.2 _ rfl _ rfl
   have h5 := hJ.vals 0 dd5.1 no_c
   rw [hT] at h5
   rw [show f 0 = .pointer (some ⟨g, 0, none⟩) from h5] at q5
   clear h5
   clear dd5
   rw [Array.getD_eq_getD_getElem?] at q5
   clear hsz hdep hout hlat
   go_simp
   exact hK _ _ (hJ.plain HTY (by rw [hls]; decide) (Ex.refl _) (by rw [hT]; rfl) (no_head (by decide)))
  ·have q3 := hout 3 (outB_spec (by kernel_rfl))
   rw [Array.getD_eq_getD_getElem?] at q3
   clear hsz hdep hout hlat
   go_simp
   exact hK _ _ (hJ.plain HTY (by rw [hls]; decide) (Ex.refl _) (by rw [hT]; rfl) (no_head (by decide)))
  ·have dd6 := hdep ⟨1, .data⟩ (by simp) rfl
   have q6 := dd6.2 _ rfl _ rfl
   have h6 := hJ.vals 1 dd6.1 no_c
   rw [hT] at h6
   rw [show f 1 = .slice (some ⟨g, 0, none⟩) 4 4 from h6] at q6
   clear h6
   clear dd6
   have dd7 := hdep ⟨2, .data⟩ (by simp) rfl
   have q7 := dd7.2 _ rfl _ rfl
   have h7 := hJ.vals 2 dd7.1 no_c
   rw [hT] at h7
   rw [show f 2 = .slice (some ⟨g + 1, 0, none⟩) 4 4 from h7] at q7
   clear h7
   clear dd7
   rw [Array.getD_eq_getD_getElem?] at q6 q7
   clear hsz hdep hout hlat
   go_simp
   refine (bcmp4 g (g + 1) 0 0 x.id id HXI.out HID.out w2 (id_pt (A0.out.ext hJ.ext.below).2 HXI.out (Vt.id_at A0.out.1)) (id_pt (B0.out.ext hJ.ext.below) HID.out (by rw [List.drop_zero, List.take_length]))).mono ?_
   rintro e w3 ⟨rfl, rfl⟩
   exact hK _ _ (hJ.plain HTY (by rw [hls]; decide) (Ex.refl _) (by rw [hT]; rfl) (no_head (by decide)))
  have dd8 := hdep ⟨3, .data⟩ (by simp) rfl
  have q8 := dd8.2 _ rfl _ rfl
  have h8 := hJ.vals 3 dd8.1 no_c
  rw [hT] at h8
  rw [show f 3 = .int .i64 (cmpN (idn x.id) (idn id)) from h8] at q8
  clear h8
  clear dd8
  rw [Array.getD_eq_getD_getElem?] at q8
  clear hsz hdep hout hlat
  go_simp
  exact hK _ _ (hJ.plain HTY (by rw [hls]; decide) (Ex.refl _) (by rw [hT]; rfl) (no_head (by decide)))
 intro listed f w2 hall hJ
 have f4 : f 4 = .int .i64 (cmpN (idn x.id) (idn id)) := by
  have h := hJ.vals 4 (hall 4 (by simp)) no_c
  rw [hT] at h; exact h
 have xk := hJ.ext
 simp only [putAll, Act.put, List.setIfInBounds_toArray, List.set_cons_zero, List.set_cons_succ, Nat.zero_add, Nat.reduceAdd]
 rw [f4]
 clear f4
 clear hJ hall hT HTY
 have BX := Hi (Ex.trans BW.out (show Ex w1 w2 from xk.below))
 clear xk
 go_wp2_with fail
 go_ret
 exact ⟨rfl, BX.out⟩
def BsfPost (n : Nat) (F : Nat → Nat) (X : Nat) (w : World) (e : Ending) (w' : World) : Prop :=
 ∃ (p : Nat) (b : Bool), e = .returned (.tuple #[.int .i64 p, .bool b]) ∧ p ≤ n ∧ (∀ q, q < p → F q < X) ∧ (∀ q, p ≤ q → q < n → X ≤ F q) ∧ b = decide (p < n ∧ F p = X) ∧ Ex w w'
set_option maxHeartbeats 4000000 in
set_option maxRecDepth 100000 in
theorem bsf_any (ad : Option Addr) (cap : Nat) (l : List Vt) (F : Nat → Nat) (HFl : ∀ (i : Nat) (x : Vt), l[i]? = some x → F i = idn x.id) (id : List UInt8) (w : World) (h4 : l.length ≤ 4) (hid : id.length = 4) (hin : Vp.In ad cap l w) (hs : ∀ i j, i ≤ j → j < l.length → F i ≤ F j) :
  Calls Try.prog 130 #[.slice ad l.length cap, digV id, (.func (.func 103) #[] #[])] w (BsfPost l.length F (idn id) w) := by
 obtain ⟨ds, hds⟩ : ∃ ds, ds = (Lib.byteCells id).toArray := ⟨_, rfl⟩
 have B0 : Hid (Bk (w.alloc (.cells ds 32)) w.heap.size 32 (Lib.byteCells id).toArray) := Hi (by rw [hds]; exact Bk.new rfl _ _)
 have BW : Hid (Ex w (w.alloc (.cells ds 32))) := Hi (Ex.alloc w _)
 rw [show digV id = .agg ds from by rw [hds]; rfl]
 have HID := Hi hid
 have HIN := Hi (hin.ext BW.out)
 clear hin hds hid
 obtain ⟨n, hn⟩ : ∃ n, n = l.length := ⟨_, rfl⟩
 rw [← hn] at h4 hs ⊢
 have HN := Hi hn
 have HS := Hi hs
 clear hn hs
 obtain ⟨X, hX⟩ : ∃ X, X = idn id := ⟨_, rfl⟩
 have HX := Hi hX
 rw [← hX]
 clear hX
 go_enter Try.func130, Try.ntmps130
 go_wp2_with fail
 go_loopw [9, 10] (fun i j wr => ∃ a b : Nat, a ≤ b ∧ b ≤ n ∧ i = .int .i64 a ∧ j = .int .i64 b ∧ Hid (∀ q, q < a → F q < X) ∧ Hid (∀ q, b ≤ q → q < n → X ≤ F q) ∧ Hid (Ex (w.alloc (.cells ds 32)) wr)) (fun i j _ => (intOf j - intOf i).toNat)
 case atStart => exact ⟨0, n, by omega, by omega, rfl, rfl, Hi (fun j hj => by omega), Hi (fun j h1 h2 => by omega), Hi (Ex.refl _)⟩
 obtain ⟨p, q, hab, hbn, rfl, rfl, lo, hi, BX⟩ := hrel
 by_cases hlt : p < q
 ·obtain ⟨g, hg⟩ : ∃ g, g = w.heap.size := ⟨_, rfl⟩
  have B1 := Hi (B0.out.ext BX.out)
  rw [← hg] at B1 ⊢
  clear hg
  obtain ⟨m, hm⟩ : ∃ m, m = (p + q) / 2 := ⟨_, rfl⟩
  have m0 : p ≤ m := by omega
  have m1 : m < q := by omega
  have em : ((p : Int) + (q : Int)) / 2 = (m : Int) := by omega
  have EM := Hi em
  clear hm em
  have q0 : (p : Int) < (q : Int) := by omega
  have qm0 : (0 : Int) ≤ (m : Int) := by omega
  have qm1 : (m : Int) < (n : Int) := by omega
  obtain ⟨x, hx⟩ : ∃ x, l[m]? = some x := ⟨_, List.getElem?_eq_getElem (by rw [← HN.out]; omega)⟩
  have HXM := Hi (HFl m x hx)
  obtain ⟨ab, o, rfl, hab2, hra⟩ := (HIN.out.ext BX.out).read (by rw [← HN.out]; omega)
  have XR := Hi (hra m x hx)
  have XK := Hi (HIN.out.ok m x hx)
  have HAB := Hi hab2
  clear hra hab2 hx
  go_wp2_with fail
  rw [EM.out]
  obtain ⟨T, hT⟩ : ∃ T : List (Rw wr.heap.size), T = [.is (.func (.func 103) #[] #[]), .is (.slice (some ⟨ab, o, none⟩) n cap), .is (.int .i64 m), .is (.pointer (some ⟨ab, o + m * 42, none⟩)), .is (x.V), .is (digV id), .is (.int .i64 (cmpN (idn x.id) (idn id))), .is (.bool (decide (cmpN (idn x.id) (idn id) < 0)))] := ⟨_, rfl⟩
  have HTY : T.map Rw.tys = ([[], [], [], [], [], [], [], []] : List (List Nat)) := by rw [hT]; rfl
  refine wp_region_gen (JW wr.heap.size wr [0] T ([[], [], [], [], [], [], [], []] : List (List Nat)) ([none, none, none, none, none, none, none, none] : List (Option Nat)) ([] : List (Nat × Nat)) 100000) (by kernel_rfl) (by kernel_rfl) (by kernel_rfl) (fitB_spec (by kernel_rfl)) (fun listed f h => JW.start (Nat.le_refl _) listed f h) ?_ ?_
  ·intro i o ho
   have hi : i < 8 := (Array.getElem?_eq_some_iff.1 ho).1
   have hi' : i = 0 ∨ i = 1 ∨ i = 2 ∨ i = 3 ∨ i = 4 ∨ i = 5 ∨ i = 6 ∨ i = 7 := by omega
   clear hi
   rcases hi' with rfl | rfl | rfl | rfl | rfl | rfl | rfl | rfl
   all_goals (simp only [List.getElem?_toArray, List.getElem?_cons_zero, List.getElem?_cons_succ, Option.some.injEq] at ho; subst ho; intro listed f a w2 hJ hsz hls hun hdep hout hlat; first | (rw [if_pos (by rfl)]; intro K hK) | skip)
   ·have q2 := hout 2 (outB_spec (by kernel_rfl))
    refine wp_mv _ rfl (hK _ _ ?_)
    rw [show a.eval (.tmp 2) = .func (.func 103) #[] #[] from q2]
    exact hJ.plain HTY (by rw [hls]; decide) (Ex.refl _) (by rw [hT]; rfl) (no_head (by decide))
   ·have q0 := hout 0 (outB_spec (by kernel_rfl))
    refine wp_mv _ rfl (hK _ _ ?_)
    rw [show a.eval (.tmp 0) = .slice (some ⟨ab, o, none⟩) n cap from q0]
    exact hJ.plain HTY (by rw [hls]; decide) (Ex.refl _) (by rw [hT]; rfl) (no_head (by decide))
   ·have q11 := hout 11 (outB_spec (by kernel_rfl))
    refine wp_mv _ rfl (hK _ _ ?_)
    rw [show a.eval (.tmp 11) = .int .i64 m from q11]
    exact hJ.plain HTY (by rw [hls]; decide) (Ex.refl _) (by rw [hT]; rfl) (no_head (by decide))
   ·have dd25 := hdep ⟨1, .data⟩ (by simp) rfl
    have q25 := dd25.2 _ rfl _ rfl
    have h25 := hJ.vals 1 dd25.1 no_c
    rw [hT] at h25
    rw [show f 1 = .slice (some ⟨ab, o, none⟩) n cap from h25] at q25
    clear h25
    clear dd25
    have dd26 := hdep ⟨2, .data⟩ (by simp) rfl
    have q26 := dd26.2 _ rfl _ rfl
    have h26 := hJ.vals 2 dd26.1 no_c
    rw [hT] at h26
    rw [show f 2 = .int .i64 m from h26] at q26
    clear h26
    clear dd26
    rw [Array.getD_eq_getD_getElem?] at q25 q26
    clear hsz hdep hout hlat
    go_simp
    exact hK _ _ (hJ.plain HTY (by rw [hls]; decide) (Ex.refl _) (by rw [hT]; rfl) (no_head (by decide)))
   ·have dd27 := hdep ⟨3, .data⟩ (by simp) rfl
    have q27 := dd27.2 _ rfl _ rfl
    have h27 := hJ.vals 3 dd27.1 no_c
    rw [hT] at h27
    rw [show f 3 = .pointer (some ⟨ab, o + m * 42, none⟩) from h27] at q27
    clear h27
    clear dd27
    exact ld_vr (.tmp 27) ab (o + m * 42) x XK.out rfl q27 (fun j u hu => (Below.cell (p := ⟨ab, o + m * 42 + j, none⟩) hJ.ext.below HAB.out).trans (XR.out j u hu)) (hK _ _ (hJ.plain HTY (by rw [hls]; decide) (Ex.refl _) (by rw [hT]; rfl) (no_head (by decide))))
   ·have q4 := hout 4 (outB_spec (by kernel_rfl))
    exact ld_idb (.tmp 4) g id HID.out rfl q4 (B1.out.ext hJ.ext.below) (hK _ _ (hJ.plain HTY (by rw [hls]; decide) (Ex.refl _) (by rw [hT]; rfl) (no_head (by decide))))
   ·have dd24 := hdep ⟨0, .data⟩ (by simp) rfl
    have q24 := dd24.2 _ rfl _ rfl
    have h24 := hJ.vals 0 dd24.1 no_c
    rw [hT] at h24
    rw [show f 0 = .func (.func 103) #[] #[] from h24] at q24
    clear h24
    clear dd24
    have dd28 := hdep ⟨4, .data⟩ (by simp) rfl
    have q28 := dd28.2 _ rfl _ rfl
    have h28 := hJ.vals 4 dd28.1 no_c
    rw [hT] at h28
    rw [show f 4 = x.V from h28] at q28
    clear h28
    clear dd28
    have dd29 := hdep ⟨5, .data⟩ (by simp) rfl
    have q29 := dd29.2 _ rfl _ rfl
    have h29 := hJ.vals 5 dd29.1 no_c
    rw [hT] at h29
    rw [show f 5 = digV id from h29] at q29
    clear h29
    clear dd29
    rw [Array.getD_eq_getD_getElem?] at q24 q28 q29
    clear hsz hdep hout hlat
    go_simp
    refine (tcmp_any x id w2 XK.out HID.out).mono ?_
    rintro e w3 ⟨rfl, x3⟩
    exact hK _ _ (hJ.plain HTY (by rw [hls]; decide) x3 (by rw [hT]; rfl) (no_head (by decide)))
   have dd30 := hdep ⟨6, .data⟩ (by simp) rfl
   have q30 := dd30.2 _ rfl _ rfl
   have h30 := hJ.vals 6 dd30.1 no_c
   rw [hT] at h30
   rw [show f 6 = .int .i64 (cmpN (idn x.id) (idn id)) from h30] at q30
   clear h30
   clear dd30
   rw [Array.getD_eq_getD_getElem?] at q30
   clear hsz hdep hout hlat
   go_simp
   exact hK _ _ (hJ.plain HTY (by rw [hls]; decide) (Ex.refl _) (by rw [hT]; rfl) (no_head (by decide)))
  intro listed f w2 hall hJ
  have f7 : f 7 = .bool (decide (cmpN (idn x.id) (idn id) < 0)) := by
   have h := hJ.vals 7 (hall 7 (by simp)) no_c
   rw [hT] at h; exact h
  have xk := hJ.ext
  simp only [putAll, Act.put, List.setIfInBounds_toArray, List.set_cons_zero, List.set_cons_succ, Nat.zero_add, Nat.reduceAdd]
  rw [f7]
  clear f7
  clear hJ hall hT HTY
  replace BX := Hi (Ex.trans BX.out (show Ex wr w2 from xk.below))
  clear xk
  have hcz : decide (cmpN (idn x.id) (idn id) < 0) = decide (F m < X) := by rw [HXM.out, HX.out]; unfold cmpN; split <;> rename_i h1 <;> (try split) <;> simp <;> omega
  rw [hcz]
  clear hcz
  by_cases yx : F m < X
  ·have lo2 : Hid (∀ q, q < m + 1 → F q < X) := Hi (fun t ht => by
    have := HS.out t m (by omega) (by omega)
    omega)
   rw [decide_eq_true yx]
   clear yx
   go_wp2_with fail
   go_roundw
   case rel => exact ⟨m + 1, q, by omega, by omega, by go_num, rfl, lo2, hi, BX⟩
   case measure => simp [intOf]; omega
  have hi2 : Hid (∀ t, m ≤ t → t < n → X ≤ F t) := Hi (fun t h1 h2 => by
   have := HS.out m t h1 h2
   omega)
  rw [decide_eq_false yx]
  clear yx
  go_wp2_with fail
  go_roundw
  case rel => exact ⟨p, m, by omega, by omega, rfl, rfl, lo, hi2, BX⟩
  case measure => simp [intOf]; omega
 obtain rfl : p = q := by omega
 clear hlt
 have q0 : ¬ (p : Int) < (p : Int) := by omega
 obtain ⟨g, hg⟩ : ∃ g, g = w.heap.size := ⟨_, rfl⟩
 have B1 := Hi (B0.out.ext BX.out)
 rw [← hg] at B1 ⊢
 clear hg
 by_cases hn : p < n
 rotate_left
 ·obtain rfl : p = n := by omega
  have q1 : ¬ (p : Int) < (p : Int) := by omega
  go_wp2_with fail
  obtain ⟨T, hT⟩ : ∃ T : List (Rw wr.heap.size), T = [.is (.int .i64 p), .is (.int .i64 p), .is (.int .i64 p), .is (.bool false), .is (.bool false), .any, .any, .any, .any, .any, .any, .any, .any, .is (.bool false), .is (.int .i64 p), .is (.bool false)] := ⟨_, rfl⟩
  have HTY : T.map Rw.tys = ([[], [], [], [], [], [], [], [], [], [], [], [], [], [], [], []] : List (List Nat)) := by rw [hT]; rfl
  refine wp_region_gen (JW wr.heap.size wr [0] T ([[], [], [], [], [], [], [], [], [], [], [], [], [], [], [], []] : List (List Nat)) ([none, none, none, none, none, none, none, none, none, none, none, none, none, none, none, none] : List (Option Nat)) ([] : List (Nat × Nat)) 100000) (by kernel_rfl) (by kernel_rfl) (by kernel_rfl) (fitB_spec (by kernel_rfl)) (fun listed f h => JW.start (Nat.le_refl _) listed f h) ?_ ?_
  ·intro i o ho
   have hi : i < 16 := (Array.getElem?_eq_some_iff.1 ho).1
   have hi' : i = 0 ∨ i = 1 ∨ i = 2 ∨ i = 3 ∨ i = 4 ∨ i = 5 ∨ i = 6 ∨ i = 7 ∨ i = 8 ∨ i = 9 ∨ i = 10 ∨ i = 11 ∨ i = 12 ∨ i = 13 ∨ i = 14 ∨ i = 15 := by omega
   clear hi
   rcases hi' with rfl | rfl | rfl | rfl | rfl | rfl | rfl | rfl | rfl | rfl | rfl | rfl | rfl | rfl | rfl | rfl
   all_goals (simp only [List.getElem?_toArray, List.getElem?_cons_zero, List.getElem?_cons_succ, Option.some.injEq] at ho; subst ho; intro listed f a w2 hJ hsz hls hun hdep hout hlat; first | (rw [if_pos (by rfl)]; intro K hK) | skip)
   ·have q9 := hout 9 (outB_spec (by kernel_rfl))
    refine wp_mv _ rfl (hK _ _ ?_)
    rw [show a.eval (.tmp 9) = .int .i64 p from q9]
    exact hJ.plain HTY (by rw [hls]; decide) (Ex.refl _) (by rw [hT]; rfl) (no_head (by decide))
   ·have q9 := hout 9 (outB_spec (by kernel_rfl))
    refine wp_mv _ rfl (hK _ _ ?_)
    rw [show a.eval (.tmp 9) = .int .i64 p from q9]
    exact hJ.plain HTY (by rw [hls]; decide) (Ex.refl _) (by rw [hT]; rfl) (no_head (by decide))
   ·have q8 := hout 8 (outB_spec (by kernel_rfl))
    refine wp_mv _ rfl (hK _ _ ?_)
    rw [show a.eval (.tmp 8) = .int .i64 p from q8]
    exact hJ.plain HTY (by rw [hls]; decide) (Ex.refl _) (by rw [hT]; rfl) (no_head (by decide))
   ·have dd36 := hdep ⟨1, .data⟩ (by simp) rfl
    have q36 := dd36.2 _ rfl _ rfl
    have h36 := hJ.vals 1 dd36.1 no_c
    rw [hT] at h36
    rw [show f 1 = .int .i64 p from h36] at q36
    clear h36
    clear dd36
    have dd37 := hdep ⟨2, .data⟩ (by simp) rfl
    have q37 := dd37.2 _ rfl _ rfl
    have h37 := hJ.vals 2 dd37.1 no_c
    rw [hT] at h37
    rw [show f 2 = .int .i64 p from h37] at q37
    clear h37
    clear dd37
    rw [Array.getD_eq_getD_getElem?] at q36 q37
    clear hsz hdep hout hlat
    go_simp
    exact hK _ _ (hJ.plain HTY (by rw [hls]; decide) (Ex.refl _) (by rw [hT]; rfl) (no_head (by decide)))
   ·have dd38 := hdep ⟨3, .data⟩ (by simp) rfl
    have q38 := dd38.2 _ rfl _ rfl
    have h38 := hJ.vals 3 dd38.1 no_c
    rw [hT] at h38
    rw [show f 3 = .bool false from h38] at q38
    clear h38
    clear dd38
    refine wp_mv _ rfl (hK _ _ ?_)
    rw [show a.eval (.tmp 38) = .bool false from q38]
    exact hJ.plain HTY (by rw [hls]; decide) (Ex.refl _) (by rw [hT]; rfl) (no_head (by decide))
   iterate 8
    focus
     have ddg := hdep ⟨4, .guard⟩ (by simp) rfl
     have kg := ddg.2 _ rfl _ rfl
     have hg := hJ.vals 4 ddg.1 no_c
     rw [hT] at hg
     rw [show f 4 = .bool false from hg] at kg
     clear hg ddg
     rw [if_neg (not_wanted rfl rfl rfl kg (by decide))]
     exact hJ.plain HTY (by rw [hls]; decide) (Ex.refl _) (by rw [hT]; exact trivial) (no_head (by decide))
   ·have dd39 := hdep ⟨4, .data⟩ (by simp) rfl
    have q39 := dd39.2 _ rfl _ rfl
    have h39 := hJ.vals 4 dd39.1 no_c
    rw [hT] at h39
    rw [show f 4 = .bool false from h39] at q39
    clear h39
    clear dd39
    have dd47 := hdep ⟨12, .data⟩ (by simp) rfl
    have q47 := dd47.2 _ rfl _ rfl
    clear dd47
    rw [Array.getD_eq_getD_getElem?] at q39 q47
    clear hsz hdep hout hlat
    go_simp
    exact hK _ _ (hJ.plain HTY (by rw [hls]; decide) (Ex.refl _) (by rw [hT]; rfl) (no_head (by decide)))
   ·have dd35 := hdep ⟨0, .data⟩ (by simp) rfl
    have q35 := dd35.2 _ rfl _ rfl
    have h35 := hJ.vals 0 dd35.1 no_c
    rw [hT] at h35
    rw [show f 0 = .int .i64 p from h35] at q35
    clear h35
    clear dd35
    rw [Array.getD_eq_getD_getElem?] at q35
    clear hsz hdep hout hlat
    go_simp
    exact hK _ _ (hJ.plain HTY (by rw [hls]; decide) (Ex.refl _) (by rw [hT]; rfl) (no_head (by decide)))
   have dd48 := hdep ⟨13, .data⟩ (by simp) rfl
   have q48 := dd48.2 _ rfl _ rfl
   have h48 := hJ.vals 13 dd48.1 no_c
   rw [hT] at h48
   rw [show f 13 = .bool false from h48] at q48
   clear h48
   clear dd48
   rw [Array.getD_eq_getD_getElem?] at q48
   clear hsz hdep hout hlat
   go_simp
   exact hK _ _ (hJ.plain HTY (by rw [hls]; decide) (Ex.refl _) (by rw [hT]; rfl) (no_head (by decide)))
  intro listed f w2 hall hJ
  have f14 : f 14 = .int .i64 p := by
   have h := hJ.vals 14 (hall 14 (by simp)) no_c
   rw [hT] at h; exact h
  have f15 : f 15 = .bool false := by
   have h := hJ.vals 15 (hall 15 (by simp)) no_c
   rw [hT] at h; exact h
  have xk := hJ.ext
  simp only [putAll, Act.put, List.setIfInBounds_toArray, List.set_cons_zero, List.set_cons_succ, Nat.zero_add, Nat.reduceAdd]
  rw [f14, f15]
  clear f14 f15
  clear hJ hall hT HTY
  replace BX := Hi (Ex.trans BX.out (show Ex wr w2 from xk.below))
  clear xk
  go_wp2_with fail
  go_ret2
  exact ⟨p, _, rfl, hbn, lo.out, hi.out, by simp, Ex.trans BW.out BX.out⟩
 have q1 : (p : Int) < (n : Int) := by omega
 have qp0 : (0 : Int) ≤ (p : Int) := by omega
 obtain ⟨x, hx⟩ : ∃ x, l[p]? = some x := ⟨_, List.getElem?_eq_getElem (by rw [← HN.out]; omega)⟩
 have HXM := Hi (HFl p x hx)
 obtain ⟨ab, o, rfl, hab2, hra⟩ := (HIN.out.ext BX.out).read (by rw [← HN.out]; omega)
 have XR := Hi (hra p x hx)
 have XK := Hi (HIN.out.ok p x hx)
 have HAB := Hi hab2
 clear hra hab2 hx
 go_wp2_with fail
 obtain ⟨T, hT⟩ : ∃ T : List (Rw wr.heap.size), T = [.is (.int .i64 p), .is (.int .i64 p), .is (.int .i64 n), .is (.bool true), .is (.bool true), .is (.func (.func 103) #[] #[]), .is (.slice (some ⟨ab, o, none⟩) n cap), .is (.int .i64 p), .is (.pointer (some ⟨ab, o + p * 42, none⟩)), .is (x.V), .is (digV id), .is (.int .i64 (cmpN (idn x.id) (idn id))), .is (.bool (decide (F p = X))), .is (.bool (decide (F p = X))), .is (.int .i64 p), .is (.bool (decide (F p = X)))] := ⟨_, rfl⟩
 have HTY : T.map Rw.tys = ([[], [], [], [], [], [], [], [], [], [], [], [], [], [], [], []] : List (List Nat)) := by rw [hT]; rfl
 refine wp_region_gen (JW wr.heap.size wr [0] T ([[], [], [], [], [], [], [], [], [], [], [], [], [], [], [], []] : List (List Nat)) ([none, none, none, none, none, none, none, none, none, none, none, none, none, none, none, none] : List (Option Nat)) ([] : List (Nat × Nat)) 100000) (by kernel_rfl) (by kernel_rfl) (by kernel_rfl) (fitB_spec (by kernel_rfl)) (fun listed f h => JW.start (Nat.le_refl _) listed f h) ?_ ?_
 ·intro i o ho
  have hi : i < 16 := (Array.getElem?_eq_some_iff.1 ho).1
  have hi' : i = 0 ∨ i = 1 ∨ i = 2 ∨ i = 3 ∨ i = 4 ∨ i = 5 ∨ i = 6 ∨ i = 7 ∨ i = 8 ∨ i = 9 ∨ i = 10 ∨ i = 11 ∨ i = 12 ∨ i = 13 ∨ i = 14 ∨ i = 15 := by omega
  clear hi
  rcases hi' with rfl | rfl | rfl | rfl | rfl | rfl | rfl | rfl | rfl | rfl | rfl | rfl | rfl | rfl | rfl | rfl
  all_goals (simp only [List.getElem?_toArray, List.getElem?_cons_zero, List.getElem?_cons_succ, Option.some.injEq] at ho; subst ho; intro listed f a w2 hJ hsz hls hun hdep hout hlat; first | (rw [if_pos (by rfl)]; intro K hK) | skip)
  ·have q9 := hout 9 (outB_spec (by kernel_rfl))
   refine wp_mv _ rfl (hK _ _ ?_)
   rw [show a.eval (.tmp 9) = .int .i64 p from q9]
   exact hJ.plain HTY (by rw [hls]; decide) (Ex.refl _) (by rw [hT]; rfl) (no_head (by decide))
  ·have q9 := hout 9 (outB_spec (by kernel_rfl))
   refine wp_mv _ rfl (hK _ _ ?_)
   rw [show a.eval (.tmp 9) = .int .i64 p from q9]
   exact hJ.plain HTY (by rw [hls]; decide) (Ex.refl _) (by rw [hT]; rfl) (no_head (by decide))
  ·have q8 := hout 8 (outB_spec (by kernel_rfl))
   refine wp_mv _ rfl (hK _ _ ?_)
   rw [show a.eval (.tmp 8) = .int .i64 n from q8]
   exact hJ.plain HTY (by rw [hls]; decide) (Ex.refl _) (by rw [hT]; rfl) (no_head (by decide))
  ·have dd36 := hdep ⟨1, .data⟩ (by simp) rfl
   have q36 := dd36.2 _ rfl _ rfl
   have h36 := hJ.vals 1 dd36.1 no_c
   rw [hT] at h36
   rw [show f 1 = .int .i64 p from h36] at q36
   clear h36
   clear dd36
   have dd37 := hdep ⟨2, .data⟩ (by simp) rfl
   have q37 := dd37.2 _ rfl _ rfl
   have h37 := hJ.vals 2 dd37.1 no_c
   rw [hT] at h37
   rw [show f 2 = .int .i64 n from h37] at q37
   clear h37
   clear dd37
   rw [Array.getD_eq_getD_getElem?] at q36 q37
   clear hsz hdep hout hlat
   go_simp
   exact hK _ _ (hJ.plain HTY (by rw [hls]; decide) (Ex.refl _) (by rw [hT]; rfl) (no_head (by decide)))
  ·have dd38 := hdep ⟨3, .data⟩ (by simp) rfl
   have q38 := dd38.2 _ rfl _ rfl
   have h38 := hJ.vals 3 dd38.1 no_c
   rw [hT] at h38
   rw [show f 3 = .bool true from h38] at q38
   clear h38
   clear dd38
   refine wp_mv _ rfl (hK _ _ ?_)
   rw [show a.eval (.tmp 38) = .bool true from q38]
   exact hJ.plain HTY (by rw [hls]; decide) (Ex.refl _) (by rw [hT]; rfl) (no_head (by decide))
  ·have ddg := hdep ⟨4, .guard⟩ (by simp) rfl
   have kg := ddg.2 _ rfl _ rfl
   have hg := hJ.vals 4 ddg.1 no_c
   rw [hT] at hg
   rw [show f 4 = .bool true from hg] at kg
   clear hg ddg
   rw [if_pos (wanted_of rfl rfl rfl kg)]
   clear kg
   intro K hK
   have q2 := hout 2 (outB_spec (by kernel_rfl))
   refine wp_mv _ rfl (hK _ _ ?_)
   rw [show a.eval (.tmp 2) = .func (.func 103) #[] #[] from q2]
   exact hJ.plain HTY (by rw [hls]; decide) (Ex.refl _) (by rw [hT]; rfl) (no_head (by decide))
  ·have ddg := hdep ⟨4, .guard⟩ (by simp) rfl
   have kg := ddg.2 _ rfl _ rfl
   have hg := hJ.vals 4 ddg.1 no_c
   rw [hT] at hg
   rw [show f 4 = .bool true from hg] at kg
   clear hg ddg
   rw [if_pos (wanted_of rfl rfl rfl kg)]
   clear kg
   intro K hK
   have q0 := hout 0 (outB_spec (by kernel_rfl))
   refine wp_mv _ rfl (hK _ _ ?_)
   rw [show a.eval (.tmp 0) = .slice (some ⟨ab, o, none⟩) n cap from q0]
   exact hJ.plain HTY (by rw [hls]; decide) (Ex.refl _) (by rw [hT]; rfl) (no_head (by decide))
  ·have ddg := hdep ⟨4, .guard⟩ (by simp) rfl
   have kg := ddg.2 _ rfl _ rfl
   have hg := hJ.vals 4 ddg.1 no_c
   rw [hT] at hg
   rw [show f 4 = .bool true from hg] at kg
   clear hg ddg
   rw [if_pos (wanted_of rfl rfl rfl kg)]
   clear kg
   intro K hK
   have q9 := hout 9 (outB_spec (by kernel_rfl))
   refine wp_mv _ rfl (hK _ _ ?_)
   rw [show a.eval (.tmp 9) = .int .i64 p from q9]
   exact hJ.plain HTY (by rw [hls]; decide) (Ex.refl _) (by rw [hT]; rfl) (no_head (by decide))
  ·have ddg := hdep ⟨4, .guard⟩ (by simp) rfl
   have kg := ddg.2 _ rfl _ rfl
   have hg := hJ.vals 4 ddg.1 no_c
   rw [hT] at hg
   rw [show f 4 = .bool true from hg] at kg
   clear hg ddg
   rw [if_pos (wanted_of rfl rfl rfl kg)]
   clear kg
   intro K hK
   have dd41 := hdep ⟨6, .data⟩ (by simp) rfl
   have q41 := dd41.2 _ rfl _ rfl
   have h41 := hJ.vals 6 dd41.1 no_c
   rw [hT] at h41
   rw [show f 6 = .slice (some ⟨ab, o, none⟩) n cap from h41] at q41
   clear h41
   clear dd41
   have dd42 := hdep ⟨7, .data⟩ (by simp) rfl
   have q42 := dd42.2 _ rfl _ rfl
   have h42 := hJ.vals 7 dd42.1 no_c
   rw [hT] at h42
   rw [show f 7 = .int .i64 p from h42] at q42
   clear h42
   clear dd42
   rw [Array.getD_eq_getD_getElem?] at q41 q42
   clear hsz hdep hout hlat
   go_simp
   exact hK _ _ (hJ.plain HTY (by rw [hls]; decide) (Ex.refl _) (by rw [hT]; rfl) (no_head (by decide)))
  ·have ddg := hdep ⟨4, .guard⟩ (by simp) rfl
   have kg := ddg.2 _ rfl _ rfl
   have hg := hJ.vals 4 ddg.1 no_c
   rw [hT] at hg
   rw [show f 4 = .bool true from hg] at kg
   clear hg ddg
   rw [if_pos (wanted_of rfl rfl rfl kg)]
   clear kg
   intro K hK
   have dd43 := hdep ⟨8, .data⟩ (by simp) rfl
   have q43 := dd43.2 _ rfl _ rfl
   have h43 := hJ.vals 8 dd43.1 no_c
   rw [hT] at h43
   rw [show f 8 = .pointer (some ⟨ab, o + p * 42, none⟩) from h43] at q43
   clear h43
   clear dd43
   exact ld_vr (.tmp 43) ab (o + p * 42) x XK.out rfl q43 (fun j u hu => (Below.cell (p := ⟨ab, o + p * 42 + j, none⟩) hJ.ext.below HAB.out).trans (XR.out j u hu)) (hK _ _ (hJ.plain HTY (by rw [hls]; decide) (Ex.refl _) (by rw [hT]; rfl) (no_head (by decide))))
  ·have ddg := hdep ⟨4, .guard⟩ (by simp) rfl
   have kg := ddg.2 _ rfl _ rfl
   have hg := hJ.vals 4 ddg.1 no_c
   rw [hT] at hg
   rw [show f 4 = .bool true from hg] at kg
   clear hg ddg
   rw [if_pos (wanted_of rfl rfl rfl kg)]
   clear kg
   intro K hK
   have q4 := hout 4 (outB_spec (by kernel_rfl))
   exact ld_idb (.tmp 4) g id HID.out rfl q4 (B1.out.ext hJ.ext.below) (hK _ _ (hJ.plain HTY (by rw [hls]; decide) (Ex.refl _) (by rw [hT]; rfl) (no_head (by decide))))
  ·have ddg := hdep ⟨4, .guard⟩ (by simp) rfl
   have kg := ddg.2 _ rfl _ rfl
   have hg := hJ.vals 4 ddg.1 no_c
   rw [hT] at hg
   rw [show f 4 = .bool true from hg] at kg
   clear hg ddg
   rw [if_pos (wanted_of rfl rfl rfl kg)]
   clear kg
   intro K hK
   have dd40 := hdep ⟨5, .data⟩ (by simp) rfl
   have q40 := dd40.2 _ rfl _ rfl
   have h40 := hJ.vals 5 dd40.1 no_c
   rw [hT] at h40
   rw [show f 5 = .func (.func 103) #[] #[] from h40] at q40
   clear h40
   clear dd40
   have dd44 := hdep ⟨9, .data⟩ (by simp) rfl
   have q44 := dd44.2 _ rfl _ rfl
   have h44 := hJ.vals 9 dd44.1 no_c
   rw [hT] at h44
   rw [show f 9 = x.V from h44] at q44
   clear h44
   clear dd44
   have dd45 := hdep ⟨10, .data⟩ (by simp) rfl
   have q45 := dd45.2 _ rfl _ rfl
   have h45 := hJ.vals 10 dd45.1 no_c
   rw [hT] at h45
   rw [show f 10 = digV id from h45] at q45
   clear h45
   clear dd45
   rw [Array.getD_eq_getD_getElem?] at q40 q44 q45
   clear hsz hdep hout hlat
   go_simp
   refine (tcmp_any x id w2 XK.out HID.out).mono ?_
   rintro e w3 ⟨rfl, x3⟩
   exact hK _ _ (hJ.plain HTY (by rw [hls]; decide) x3 (by rw [hT]; rfl) (no_head (by decide)))
  ·have ddg := hdep ⟨4, .guard⟩ (by simp) rfl
   have kg := ddg.2 _ rfl _ rfl
   have hg := hJ.vals 4 ddg.1 no_c
   rw [hT] at hg
   rw [show f 4 = .bool true from hg] at kg
   clear hg ddg
   rw [if_pos (wanted_of rfl rfl rfl kg)]
   clear kg
   intro K hK
   have dd46 := hdep ⟨11, .data⟩ (by simp) rfl
   have q46 := dd46.2 _ rfl _ rfl
   have h46 := hJ.vals 11 dd46.1 no_c
   rw [hT] at h46
   rw [show f 11 = .int .i64 (cmpN (idn x.id) (idn id)) from h46] at q46
   clear h46
   clear dd46
   rw [Array.getD_eq_getD_getElem?] at q46
   have hz : decide (cmpN (idn x.id) (idn id) = 0) = decide (F p = X) := by rw [HXM.out, HX.out]; unfold cmpN; split <;> rename_i h1 <;> (try split) <;> simp <;> omega
   clear hsz hdep hout hlat
   go_simp
   exact hK _ _ (hJ.plain HTY (by rw [hls]; decide) (Ex.refl _) (by rw [hT]; first | rfl | exact congrArg Value.bool hz | (show _ = Value.bool _; rw [← hz]; simp)) (no_head (by decide)))
  ·have dd39 := hdep ⟨4, .data⟩ (by simp) rfl
   have q39 := dd39.2 _ rfl _ rfl
   have h39 := hJ.vals 4 dd39.1 no_c
   rw [hT] at h39
   rw [show f 4 = .bool true from h39] at q39
   clear h39
   clear dd39
   have dd47 := hdep ⟨12, .data⟩ (by simp) rfl
   have q47 := dd47.2 _ rfl _ rfl
   have h47 := hJ.vals 12 dd47.1 no_c
   rw [hT] at h47
   rw [show f 12 = .bool (decide (F p = X)) from h47] at q47
   clear h47
   clear dd47
   rw [Array.getD_eq_getD_getElem?] at q39 q47
   clear hsz hdep hout hlat
   go_simp
   exact hK _ _ (hJ.plain HTY (by rw [hls]; decide) (Ex.refl _) (by rw [hT]; rfl) (no_head (by decide)))
  ·have dd35 := hdep ⟨0, .data⟩ (by simp) rfl
   have q35 := dd35.2 _ rfl _ rfl
   have h35 := hJ.vals 0 dd35.1 no_c
   rw [hT] at h35
   rw [show f 0 = .int .i64 p from h35] at q35
   clear h35
   clear dd35
   rw [Array.getD_eq_getD_getElem?] at q35
   clear hsz hdep hout hlat
   go_simp
   exact hK _ _ (hJ.plain HTY (by rw [hls]; decide) (Ex.refl _) (by rw [hT]; rfl) (no_head (by decide)))
  have dd48 := hdep ⟨13, .data⟩ (by simp) rfl
  have q48 := dd48.2 _ rfl _ rfl
  have h48 := hJ.vals 13 dd48.1 no_c
  rw [hT] at h48
  rw [show f 13 = .bool (decide (F p = X)) from h48] at q48
  clear h48
  clear dd48
  rw [Array.getD_eq_getD_getElem?] at q48
  clear hsz hdep hout hlat
  go_simp
  exact hK _ _ (hJ.plain HTY (by rw [hls]; decide) (Ex.refl _) (by rw [hT]; rfl) (no_head (by decide)))
 intro listed f w2 hall hJ
 have f14 : f 14 = .int .i64 p := by
  have h := hJ.vals 14 (hall 14 (by simp)) no_c
  rw [hT] at h; exact h
 have f15 : f 15 = .bool (decide (F p = X)) := by
  have h := hJ.vals 15 (hall 15 (by simp)) no_c
  rw [hT] at h; exact h
 have xk := hJ.ext
 simp only [putAll, Act.put, List.setIfInBounds_toArray, List.set_cons_zero, List.set_cons_succ, Nat.zero_add, Nat.reduceAdd]
 rw [f14, f15]
 clear f14 f15
 clear hJ hall hT HTY
 replace BX := Hi (Ex.trans BX.out (show Ex wr w2 from xk.below))
 clear xk
 go_wp2_with fail
 go_ret2
 exact ⟨p, _, rfl, hbn, lo.out, hi.out, by simp [hn], Ex.trans BW.out BX.out⟩
end Go.Proofs.Ytmjfnpmnhehnkaa
