/- placed of chapter 12: a vault in its place -/
import Derived.Test.YtedljddjmojeeaaTp
namespace Go.Proofs.Ytedljddjmojeeaa
open Go.RowKit
def lts (X : Nat) (xs : List Vt) : List Vt := xs.filter fun x => decide (idn x.id < X)
def gts (X : Nat) (xs : List Vt) : List Vt := xs.filter fun x => decide (X < idn x.id)
theorem filter_take_succ {p : Vt → Bool} {xs : List Vt} {k : Nat} {x : Vt} (hx : xs[k]? = some x) : (xs.take (k + 1)).filter p = (xs.take k).filter p ++ (if p x = true then [x] else []) := by
 rw [List.take_add_one, List.filter_append, hx]
 simp only [Option.toList, List.filter_cons, List.filter_nil]
 
def RowOf (w : World) (B : Nat) (v : Value) (xs : List Vt) : Prop := w.ownsRow B 30 42 v xs.length (xs.flatMap Vt.C)
theorem RowOf.app {w2 : World} {B : Nat} {v' : Value} {xs : List Vt} {z : Vt} (hr : w2.ownsRow B 30 42 v' (xs.length + 1) (xs.flatMap Vt.C ++ z.C)) : RowOf w2 B v' (xs ++ [z]) := by
 unfold RowOf; rw [List.length_append, List.flatMap_append]; simpa using hr
def PlacedPost (xs : List Vt) (x : Vt) (w : World) (e : Ending) (w' : World) : Prop := ∃ v, e = .returned v ∧ RowOf w' w.heap.size v (lts (idn x.id) xs ++ [x] ++ gts (idn x.id) xs) ∧ Ex w w'
set_option maxHeartbeats 4000000 in
set_option maxRecDepth 100000 in
theorem placed_any (ad : Option Addr) (cap : Nat) (xs : List Vt) (hL : xs.length ≤ 4) (x : Vt) (hx : x.Ok) (w : World) (hin : Vp.In ad cap xs w) : Calls Try.prog 51 #[.slice ad xs.length cap, x.V] w (PlacedPost xs x w) := by
 obtain ⟨cs, hcs⟩ : ∃ cs, cs = x.C.toArray := ⟨_, rfl⟩
 have A0 : Hid (VB (w.alloc (.cells cs 30)) w.heap.size x) := Lib.hid ⟨hx, by rw [hcs]; exact Bk.new rfl _ _⟩
 have BW : Hid (Ex w (w.alloc (.cells cs 30))) := Lib.hid (Ex.alloc w _)
 have HIN := Lib.hid (hin.ext BW.out)
 have HXO := Lib.hid hx
 obtain ⟨n, hn⟩ : ∃ n, n = xs.length := ⟨_, rfl⟩
 have HN := Lib.hid hn
 have hnb : n ≤ 4 := by rw [hn]; exact hL
 rw [← hn, show (Calls Try.prog 51 #[.slice ad n cap, x.V] w) = (Calls Try.prog 51 #[.slice ad n cap, .agg cs] w) by rw [hcs]; rfl]
 clear hcs hx hin hn hL
 have HLT : Hid ((lts (idn x.id) xs).length ≤ 4) := Lib.hid (Nat.le_trans (List.length_filter_le _ _) (by rw [← HN.out]; omega))
 go_enter Try.func51, Try.ntmps51
 go_wp2_with (first | (with_reducible refine stop_load (t := 30) ?_) | (with_reducible refine stop_store (t := 30) ?_) | (with_reducible refine stop_load (t := 24) ?_) | (with_reducible refine stop_store (t := 24) ?_) | (with_reducible refine stop_build (t := 30) ?_) | (with_reducible refine stop_bs (t := 59) ?_) | (with_reducible refine stop_app ?_))
 generalize hw1 : (w.alloc (.cells cs 30)) = w1 at *
 clear hw1
 obtain ⟨g, hg⟩ : ∃ g, g = w.heap.size := ⟨_, rfl⟩
 rw [← hg] at A0 ⊢
 clear hg
 go_loopw [5, 6] (fun v i wr => ∃ k : Nat, k ≤ n ∧ i = .int .i64 k ∧ Hid (RowOf wr w1.heap.size v (lts (idn x.id) (xs.take k))) ∧ Hid (Ex w1 wr)) (fun _ i _ => n - (intOf i).toNat)
 case atStart => exact ⟨0, by omega, rfl, Lib.hid (World.ownsRow_nil _ _ _ _), Lib.hid (Ex.refl _)⟩
 case round =>
  skip
  obtain ⟨k, hk, rfl, RW, BX⟩ := hrel
  by_cases hlt : k < n
  ·have q0 : (0 : Int) ≤ (k : Int) := by omega
   have q1 : (k : Int) < (n : Int) := by omega
   obtain ⟨y, hy⟩ : ∃ z, xs[k]? = some z := ⟨_, List.getElem?_eq_getElem (by rw [← HN.out]; omega)⟩
   obtain ⟨ab, o, rfl, hab2, hra⟩ := (HIN.out.ext BX.out).read (by rw [← HN.out]; omega)
   have YR := Lib.hid (hra k y hy)
   have YO := Lib.hid (HIN.out.ok k y hy)
   have HYK := Lib.hid hy
   have HAB := Lib.hid hab2
   have hls := less_str YO.out.idN HXO.out.idN
   obtain ⟨b, hb⟩ : ∃ b, b = decide (idn y.id < idn x.id) := ⟨_, rfl⟩
   rw [← hb] at hls
   have HLS := Lib.hid hls
   have HB := Lib.hid hb
   clear hra hab2 hy hls hb
   go_wp2_with (first | (with_reducible refine stop_load (t := 30) ?_) | (with_reducible refine stop_store (t := 30) ?_) | (with_reducible refine stop_load (t := 24) ?_) | (with_reducible refine stop_store (t := 24) ?_) | (with_reducible refine stop_build (t := 30) ?_) | (with_reducible refine stop_bs (t := 59) ?_) | (with_reducible refine stop_app ?_))
   obtain ⟨T, hT⟩ : ∃ T : List (Rw wr.heap.size), T = [.is (.slice (some ⟨ab, o, none⟩) n cap), .is (.int .i64 k), .is (.pointer (some ⟨ab, o + k * 42, none⟩)), .is (.pointer (some ⟨ab, o + k * 42, none⟩)), .is (.slice (some ⟨ab, o + k * 42, none⟩) 4 4), .is (.string (strL y.id)), .is (.pointer (some ⟨g, 0, none⟩)), .is (.slice (some ⟨g, 0, none⟩) 4 4), .is (.string (strL x.id)), .is (.bool b)] := ⟨_, rfl⟩
   have HTY : T.map Rw.tys = ([[], [], [], [], [], [], [], [], [], []] : List (List Nat)) := by rw [hT]; rfl
   refine wp_region_gen (JW wr.heap.size wr [0] T ([[], [], [], [], [], [], [], [], [], []] : List (List Nat)) ([none, none, none, none, none, none, none, none, none, none] : List (Option Nat)) ([] : List (Nat × Nat)) 100000) (by kernel_rfl) (by kernel_rfl) (by kernel_rfl) (fitB_spec (by kernel_rfl)) (fun listed f h => JW.start (Nat.le_refl _) listed f h) ?_ ?_
   ·intro i o ho
    have hi : i < 10 := (Array.getElem?_eq_some_iff.1 ho).1
    have hi' : i = 0 ∨ i = 1 ∨ i = 2 ∨ i = 3 ∨ i = 4 ∨ i = 5 ∨ i = 6 ∨ i = 7 ∨ i = 8 ∨ i = 9 := by omega
    clear hi
    rcases hi' with rfl | rfl | rfl | rfl | rfl | rfl | rfl | rfl | rfl | rfl
    all_goals (simp only [List.getElem?_toArray, List.getElem?_cons_zero, List.getElem?_cons_succ, Option.some.injEq] at ho; subst ho; intro listed f a w3 hJ hsz hls hun hdep hout hlat)
    ·rw [if_pos (by rfl)]
     intro K hK
     have q0 := hout 0 (outB_spec (by kernel_rfl))
     have hord := no_ord 0 listed
     refine wp_mv _ rfl (hK _ _ ?_)
     rw [show a.eval (.tmp 0) = .slice (some ⟨ab, o, none⟩) n cap from q0]
     exact hJ.plain HTY (by rw [hls]; decide) (Ex.refl _) (by rw [hT]; rfl) hord
    ·rw [if_pos (by rfl)]
     intro K hK
     have q6 := hout 6 (outB_spec (by kernel_rfl))
     have hord := no_ord 1 listed
     refine wp_mv _ rfl (hK _ _ ?_)
     rw [show a.eval (.tmp 6) = .int .i64 k from q6]
     exact hJ.plain HTY (by rw [hls]; decide) (Ex.refl _) (by rw [hT]; rfl) hord
    ·rw [if_pos (by rfl)]
     intro K hK
     have dd14 := hdep ⟨0, .data⟩ (by simp) rfl
     have q14 := dd14.2 _ rfl _ rfl
     have h14 := hJ.vals 0 dd14.1 no_c
     rw [hT] at h14
     rw [show f 0 = .slice (some ⟨ab, o, none⟩) n cap from h14] at q14
     clear h14
     clear dd14
     have dd15 := hdep ⟨1, .data⟩ (by simp) rfl
     have q15 := dd15.2 _ rfl _ rfl
     have h15 := hJ.vals 1 dd15.1 no_c
     rw [hT] at h15
     rw [show f 1 = .int .i64 k from h15] at q15
     clear h15
     clear dd15
     have hord := no_ord 2 listed
     rw [Array.getD_eq_getD_getElem?] at q14
     rw [Array.getD_eq_getD_getElem?] at q15
     clear hsz hdep hout hlat
     go_simp
     exact hK _ _ (hJ.plain HTY (by rw [hls]; decide) (Ex.refl _) (by rw [hT]; first | rfl | exact int_eq (by omega) | exact int_eq (by rw [IntKind.wrap_i64]; omega)) hord)
    ·rw [if_pos (by rfl)]
     intro K hK
     have dd16 := hdep ⟨2, .data⟩ (by simp) rfl
     have q16 := dd16.2 _ rfl _ rfl
     have h16 := hJ.vals 2 dd16.1 no_c
     rw [hT] at h16
     rw [show f 2 = .pointer (some ⟨ab, o + k * 42, none⟩) from h16] at q16
     clear h16
     clear dd16
     have hord := no_ord 3 listed
     rw [Array.getD_eq_getD_getElem?] at q16
     clear hsz hdep hout hlat
     go_simp
     exact hK _ _ (hJ.plain HTY (by rw [hls]; decide) (Ex.refl _) (by rw [hT]; first | rfl | exact int_eq (by omega) | exact int_eq (by rw [IntKind.wrap_i64]; omega)) hord)
    ·rw [if_pos (by rfl)]
     intro K hK
     have dd17 := hdep ⟨3, .data⟩ (by simp) rfl
     have q17 := dd17.2 _ rfl _ rfl
     have h17 := hJ.vals 3 dd17.1 no_c
     rw [hT] at h17
     rw [show f 3 = .pointer (some ⟨ab, o + k * 42, none⟩) from h17] at q17
     clear h17
     clear dd17
     have hord := no_ord 4 listed
     rw [Array.getD_eq_getD_getElem?] at q17
     clear hsz hdep hout hlat
     go_simp
     exact hK _ _ (hJ.plain HTY (by rw [hls]; decide) (Ex.refl _) (by rw [hT]; first | rfl | exact int_eq (by omega) | exact int_eq (by rw [IntKind.wrap_i64]; omega)) hord)
    ·rw [if_pos (by rfl)]
     intro K hK
     have dd18 := hdep ⟨4, .data⟩ (by simp) rfl
     have q18 := dd18.2 _ rfl _ rfl
     have h18 := hJ.vals 4 dd18.1 no_c
     rw [hT] at h18
     rw [show f 4 = .slice (some ⟨ab, o + k * 42, none⟩) 4 4 from h18] at q18
     clear h18
     clear dd18
     have hord := no_ord 5 listed
     have hcv := conv_id YO.out (range_ex YR.out hJ.ext.below HAB.out) (Nat.lt_of_lt_of_le HAB.out (Ex.sz' hJ.ext.below))
     rw [Array.getD_eq_getD_getElem?] at q18
     clear hsz hdep hout hlat
     go_simp
     exact hK _ _ (hJ.plain HTY (by rw [hls]; decide) (Ex.refl _) (by rw [hT]; rfl) hord)
    ·rw [if_pos (by rfl)]
     intro K hK
     have q3 := hout 3 (outB_spec (by kernel_rfl))
     have hord := no_ord 6 listed
     rw [Array.getD_eq_getD_getElem?] at q3
     clear hsz hdep hout hlat
     go_simp
     exact hK _ _ (hJ.plain HTY (by rw [hls]; decide) (Ex.refl _) (by rw [hT]; first | rfl | exact int_eq (by omega) | exact int_eq (by rw [IntKind.wrap_i64]; omega)) hord)
    ·rw [if_pos (by rfl)]
     intro K hK
     have dd20 := hdep ⟨6, .data⟩ (by simp) rfl
     have q20 := dd20.2 _ rfl _ rfl
     have h20 := hJ.vals 6 dd20.1 no_c
     rw [hT] at h20
     rw [show f 6 = .pointer (some ⟨g, 0, none⟩) from h20] at q20
     clear h20
     clear dd20
     have hord := no_ord 7 listed
     rw [Array.getD_eq_getD_getElem?] at q20
     clear hsz hdep hout hlat
     go_simp
     exact hK _ _ (hJ.plain HTY (by rw [hls]; decide) (Ex.refl _) (by rw [hT]; first | rfl | exact int_eq (by omega) | exact int_eq (by rw [IntKind.wrap_i64]; omega)) hord)
    ·rw [if_pos (by rfl)]
     intro K hK
     have dd21 := hdep ⟨7, .data⟩ (by simp) rfl
     have q21 := dd21.2 _ rfl _ rfl
     have h21 := hJ.vals 7 dd21.1 no_c
     rw [hT] at h21
     rw [show f 7 = .slice (some ⟨g, 0, none⟩) 4 4 from h21] at q21
     clear h21
     clear dd21
     have hord := no_ord 8 listed
     have xx := Ex.trans BX.out hJ.ext.below
     have hcv := conv_id (g := g) (off := 0) HXO.out (fun j u hu => by rw [Nat.zero_add, (A0.out.ext xx).2.cell]; simpa using hu) (A0.out.ext xx).lt
     clear xx
     rw [Array.getD_eq_getD_getElem?] at q21
     clear hsz hdep hout hlat
     go_simp
     exact hK _ _ (hJ.plain HTY (by rw [hls]; decide) (Ex.refl _) (by rw [hT]; rfl) hord)
    ·rw [if_pos (by rfl)]
     intro K hK
     have dd19 := hdep ⟨5, .data⟩ (by simp) rfl
     have q19 := dd19.2 _ rfl _ rfl
     have h19 := hJ.vals 5 dd19.1 no_c
     rw [hT] at h19
     rw [show f 5 = .string (strL y.id) from h19] at q19
     clear h19
     clear dd19
     have dd22 := hdep ⟨8, .data⟩ (by simp) rfl
     have q22 := dd22.2 _ rfl _ rfl
     have h22 := hJ.vals 8 dd22.1 no_c
     rw [hT] at h22
     rw [show f 8 = .string (strL x.id) from h22] at q22
     clear h22
     clear dd22
     have hord := no_ord 9 listed
     rw [Array.getD_eq_getD_getElem?] at q19
     rw [Array.getD_eq_getD_getElem?] at q22
     have hl := HLS.out
     clear hsz hdep hout hlat
     go_simp
     exact hK _ _ (hJ.plain HTY (by rw [hls]; decide) (Ex.refl _) (by rw [hT]; first | rfl | exact congrArg Value.bool hl | simp [hl]) hord)
   ·intro listed f w3 hall hJ
    have f9 : f 9 = .bool b := by
     have h := hJ.vals 9 (hall 9 (by simp)) no_c
     rw [hT] at h; exact h
    have xk := hJ.ext
    simp only [putAll, Act.put, List.setIfInBounds_toArray, List.set_cons_zero, List.set_cons_succ, Nat.zero_add, Nat.reduceAdd]
    rw [f9]
    clear f9
    clear hJ hall hT HTY
    generalize f 0 = y0
    generalize f 1 = y1
    generalize f 2 = y2
    generalize f 3 = y3
    generalize f 4 = y4
    generalize f 5 = y5
    generalize f 6 = y6
    generalize f 7 = y7
    generalize f 8 = y8
    have xw : Ex wr w3 := xk.below
    have YR3 := Lib.hid (range_ex YR.out xw HAB.out)
    replace BX := Lib.hid (Ex.trans BX.out xw)
    have rw9 := xw.row RW.out
    replace RW := Lib.hid rw9
    clear xk xw YR rw9
    cases b
    ·skip
     go_wp2_with (first | (with_reducible refine stop_load (t := 30) ?_) | (with_reducible refine stop_store (t := 30) ?_) | (with_reducible refine stop_load (t := 24) ?_) | (with_reducible refine stop_store (t := 24) ?_) | (with_reducible refine stop_build (t := 30) ?_) | (with_reducible refine stop_bs (t := 59) ?_) | (with_reducible refine stop_app ?_))
     (first | (refine ⟨?_, ?measure⟩; (repeat apply Exists.intro); refine ⟨?rel, rfl⟩) | refine ⟨?rel, ?measure⟩)
     case rel => exact ⟨k + 1, by omega, by go_num, Lib.hid (by rw [show lts (idn x.id) (xs.take (k + 1)) = lts (idn x.id) (xs.take k) from by unfold lts; rw [filter_take_succ HYK.out, if_neg (by rw [← HB.out]; decide), List.append_nil]]; exact RW.out), BX⟩
     case measure => simp [intOf]; omega
    ·skip
     go_wp2_with (first | (with_reducible refine stop_load (t := 30) ?_) | (with_reducible refine stop_store (t := 30) ?_) | (with_reducible refine stop_load (t := 24) ?_) | (with_reducible refine stop_store (t := 24) ?_) | (with_reducible refine stop_build (t := 30) ?_) | (with_reducible refine stop_bs (t := 59) ?_) | (with_reducible refine stop_app ?_))
     (with_reducible refine ⟨?_⟩); (with_reducible refine at_any ?_ ?_); (focus go_simp); refine fun K0 hK => ld_vr _ ab (o + k * 42) y YO.out rfl rfl YR3.out (hK _ _ ?_)
     clear hK
     go_wp2_with (first | (with_reducible refine stop_load (t := 30) ?_) | (with_reducible refine stop_store (t := 30) ?_) | (with_reducible refine stop_load (t := 24) ?_) | (with_reducible refine stop_store (t := 24) ?_) | (with_reducible refine stop_build (t := 30) ?_) | (with_reducible refine stop_bs (t := 59) ?_) | (with_reducible refine stop_app ?_))
     (with_reducible refine ⟨?_⟩); (with_reducible refine at_any ?_ ?_); (focus go_simp); refine fun K0 hK => wp_bsv _ y YO.out rfl rfl (hK _ _ ?_)
     clear hK
     have xa := Ex.alloc w3 (.cells y.C.toArray 30)
     have NB := Lib.hid (Bk.new (g := w3.heap.size) (w := w3) rfl 30 y.C.toArray)
     replace BX := Lib.hid (Ex.trans BX.out xa)
     have rw9 := xa.row RW.out
     generalize hw4 : w3.alloc (.cells y.C.toArray 30) = w4 at *
     obtain ⟨g2, hg⟩ : ∃ g, g = w3.heap.size := ⟨_, rfl⟩
     rw [← hg] at NB ⊢
     replace RW := Lib.hid rw9
     clear hw4 hg xa rw9
     have MR := Lib.hid (Many.rd (n := 1) (sz := 42) ⟨g2, rfl, NB.out⟩ (Vt.len YO.out))
     go_wp2_with (first | (with_reducible refine stop_load (t := 30) ?_) | (with_reducible refine stop_store (t := 30) ?_) | (with_reducible refine stop_load (t := 24) ?_) | (with_reducible refine stop_store (t := 24) ?_) | (with_reducible refine stop_build (t := 30) ?_) | (with_reducible refine stop_bs (t := 59) ?_) | (with_reducible refine stop_app ?_))
     obtain ⟨adx, ex, nx, rx⟩ := MR.out
     cases ex
     have RX := Lib.hid rx
     clear rx nx MR
     have hlen : (lts (idn x.id) (xs.take k)).length ≤ 100 := by 
           have hf : ((xs.take k).filter fun z => decide (idn z.id < idn x.id)).length ≤ 4 := Nat.le_trans (List.length_filter_le _ _) (by rw [List.length_take]; omega)
           unfold lts; omega
     (with_reducible refine ⟨?_⟩); (with_reducible refine at_any ?_ ?_); (focus go_simp); refine fun K0 hK => wp_rd _ _ 59 30 zeroVt.V 42 96 rfl Try.underlying59 Try.infoVt rfl (by decide) w1.heap.size (lts (idn x.id) (xs.take k)).length _ _ rfl RW.out BX.out.sz' _ 1 1 _ rfl RX.out (Nat.le_refl _) (fun h => by cases h) (Vt.C_one y) (by omega) (by omega) (fun v5 w5 r1 r2 => hK _ _ ?_)
     clear hK
     replace BX := Lib.hid (show Ex w1 w5 from Below.trans (show Below w1.heap.size w1 _ from BX.out) r2.below)
     replace RW := Lib.hid (RowOf.app r1)
     clear r1 r2 hlen
     go_wp2_with (first | (with_reducible refine stop_load (t := 30) ?_) | (with_reducible refine stop_store (t := 30) ?_) | (with_reducible refine stop_load (t := 24) ?_) | (with_reducible refine stop_store (t := 24) ?_) | (with_reducible refine stop_build (t := 30) ?_) | (with_reducible refine stop_bs (t := 59) ?_) | (with_reducible refine stop_app ?_))
     (first | (refine ⟨?_, ?measure⟩; (repeat apply Exists.intro); refine ⟨?rel, rfl⟩) | refine ⟨?rel, ?measure⟩)
     case rel => exact ⟨k + 1, by omega, by go_num, Lib.hid (by rw [show lts (idn x.id) (xs.take (k + 1)) = lts (idn x.id) (xs.take k) ++ [y] from by unfold lts; rw [filter_take_succ HYK.out, if_pos (by rw [← HB.out])]]; have h9 := RW.out; (try simp only [List.append_assoc] at h9 ⊢); exact h9), BX⟩
     case measure => simp [intOf]; omega
  ·obtain rfl : n = k := by omega
   have q1 : ¬ (n : Int) < (n : Int) := by omega
   rw [List.take_of_length_le (by rw [← HN.out]; exact Nat.le_refl _)] at RW
   go_wp2_with (first | (with_reducible refine stop_load (t := 30) ?_) | (with_reducible refine stop_store (t := 30) ?_) | (with_reducible refine stop_load (t := 24) ?_) | (with_reducible refine stop_store (t := 24) ?_) | (with_reducible refine stop_build (t := 30) ?_) | (with_reducible refine stop_bs (t := 59) ?_) | (with_reducible refine stop_app ?_))
   (with_reducible refine ⟨?_⟩); (with_reducible refine at_any ?_ ?_); (focus go_simp); refine fun K0 hK => ld_v _ g x rfl rfl (A0.out.ext BX.out) (hK _ _ ?_)
   clear hK
   go_wp2_with (first | (with_reducible refine stop_load (t := 30) ?_) | (with_reducible refine stop_store (t := 30) ?_) | (with_reducible refine stop_load (t := 24) ?_) | (with_reducible refine stop_store (t := 24) ?_) | (with_reducible refine stop_build (t := 30) ?_) | (with_reducible refine stop_bs (t := 59) ?_) | (with_reducible refine stop_app ?_))
   (with_reducible refine ⟨?_⟩); (with_reducible refine at_any ?_ ?_); (focus go_simp); refine fun K0 hK => wp_bsv _ x HXO.out rfl rfl (hK _ _ ?_)
   clear hK
   have xa := Ex.alloc wr (.cells x.C.toArray 30)
   have NB := Lib.hid (Bk.new (g := wr.heap.size) (w := wr) rfl 30 x.C.toArray)
   replace BX := Lib.hid (Ex.trans BX.out xa)
   have rw9 := xa.row RW.out
   generalize hw4 : wr.alloc (.cells x.C.toArray 30) = w4 at *
   obtain ⟨g2, hg⟩ : ∃ g, g = wr.heap.size := ⟨_, rfl⟩
   rw [← hg] at NB ⊢
   replace RW := Lib.hid rw9
   clear hw4 hg xa rw9
   have MR := Lib.hid (Many.rd (n := 1) (sz := 42) ⟨g2, rfl, NB.out⟩ (Vt.len HXO.out))
   go_wp2_with (first | (with_reducible refine stop_load (t := 30) ?_) | (with_reducible refine stop_store (t := 30) ?_) | (with_reducible refine stop_load (t := 24) ?_) | (with_reducible refine stop_store (t := 24) ?_) | (with_reducible refine stop_build (t := 30) ?_) | (with_reducible refine stop_bs (t := 59) ?_) | (with_reducible refine stop_app ?_))
   obtain ⟨adx, ex, nx, rx⟩ := MR.out
   cases ex
   have RX := Lib.hid rx
   clear rx nx MR
   have hlen : (lts (idn x.id) xs).length ≤ 100 := by have := HLT.out; omega
   (with_reducible refine ⟨?_⟩); (with_reducible refine at_any ?_ ?_); (focus go_simp); refine fun K0 hK => wp_rd _ _ 59 30 zeroVt.V 42 96 rfl Try.underlying59 Try.infoVt rfl (by decide) w1.heap.size (lts (idn x.id) xs).length _ _ rfl RW.out BX.out.sz' _ 1 1 _ rfl RX.out (Nat.le_refl _) (fun h => by cases h) (Vt.C_one x) (by omega) (by omega) (fun v5 w5 r1 r2 => hK _ _ ?_)
   clear hK
   replace BX := Lib.hid (show Ex w1 w5 from Below.trans (show Below w1.heap.size w1 _ from BX.out) r2.below)
   replace RW := Lib.hid (RowOf.app r1)
   clear r1 r2 hlen
   go_wp2_with (first | (with_reducible refine stop_load (t := 30) ?_) | (with_reducible refine stop_store (t := 30) ?_) | (with_reducible refine stop_load (t := 24) ?_) | (with_reducible refine stop_store (t := 24) ?_) | (with_reducible refine stop_build (t := 30) ?_) | (with_reducible refine stop_bs (t := 59) ?_) | (with_reducible refine stop_app ?_))
   go_loopw [5, 7] (fun v i wr => ∃ k : Nat, k ≤ n ∧ i = .int .i64 k ∧ Hid (RowOf wr w1.heap.size v (lts (idn x.id) xs ++ [x] ++ gts (idn x.id) (xs.take k))) ∧ Hid (Ex w1 wr)) (fun _ i _ => n - (intOf i).toNat)
   case atStart => exact ⟨0, by omega, rfl, Lib.hid (by rw [List.take_zero, show gts (idn x.id) [] = [] from rfl, List.append_nil]; exact RW.out), BX⟩
   case round =>
    clear RW BX
    obtain ⟨k, hk, rfl, RW, BX⟩ := hrel
    by_cases hlt : k < n
    ·have q0 : (0 : Int) ≤ (k : Int) := by omega
     have q1 : (k : Int) < (n : Int) := by omega
     obtain ⟨y, hy⟩ : ∃ z, xs[k]? = some z := ⟨_, List.getElem?_eq_getElem (by rw [← HN.out]; omega)⟩
     obtain ⟨ab, o, rfl, hab2, hra⟩ := (HIN.out.ext BX.out).read (by rw [← HN.out]; omega)
     have YR := Lib.hid (hra k y hy)
     have YO := Lib.hid (HIN.out.ok k y hy)
     have HYK := Lib.hid hy
     have HAB := Lib.hid hab2
     have hls := less_str YO.out.idN HXO.out.idN
     have heq := beq_str YO.out.idN HXO.out.idN
     obtain ⟨b, hb⟩ : ∃ b, b = decide (idn x.id < idn y.id) := ⟨_, rfl⟩
     replace hls : (!(Op.bytesLess (strL y.id).toList (strL x.id).toList || (strL y.id).toList == (strL x.id).toList)) = b := by
      rw [hls, heq, hb]
      rcases Nat.lt_trichotomy (idn x.id) (idn y.id) with h | h | h
      ·rw [decide_eq_false (by omega : ¬ idn y.id < idn x.id), decide_eq_false (by omega : ¬ idn y.id = idn x.id), decide_eq_true h]; rfl
      ·rw [decide_eq_false (by omega : ¬ idn y.id < idn x.id), decide_eq_true h.symm, decide_eq_false (by omega : ¬ idn x.id < idn y.id)]; rfl
      ·rw [decide_eq_true h, decide_eq_false (by omega : ¬ idn y.id = idn x.id), decide_eq_false (by omega : ¬ idn x.id < idn y.id)]; rfl
     clear heq
     have HLS := Lib.hid hls
     have HB := Lib.hid hb
     clear hra hab2 hy hls hb
     go_wp2_with (first | (with_reducible refine stop_load (t := 30) ?_) | (with_reducible refine stop_store (t := 30) ?_) | (with_reducible refine stop_load (t := 24) ?_) | (with_reducible refine stop_store (t := 24) ?_) | (with_reducible refine stop_build (t := 30) ?_) | (with_reducible refine stop_bs (t := 59) ?_) | (with_reducible refine stop_app ?_))
     obtain ⟨T, hT⟩ : ∃ T : List (Rw wr.heap.size), T = [.is (.slice (some ⟨ab, o, none⟩) n cap), .is (.int .i64 k), .is (.pointer (some ⟨ab, o + k * 42, none⟩)), .is (.pointer (some ⟨ab, o + k * 42, none⟩)), .is (.slice (some ⟨ab, o + k * 42, none⟩) 4 4), .is (.string (strL y.id)), .is (.pointer (some ⟨g, 0, none⟩)), .is (.slice (some ⟨g, 0, none⟩) 4 4), .is (.string (strL x.id)), .is (.bool b)] := ⟨_, rfl⟩
     have HTY : T.map Rw.tys = ([[], [], [], [], [], [], [], [], [], []] : List (List Nat)) := by rw [hT]; rfl
     refine wp_region_gen (JW wr.heap.size wr [0] T ([[], [], [], [], [], [], [], [], [], []] : List (List Nat)) ([none, none, none, none, none, none, none, none, none, none] : List (Option Nat)) ([] : List (Nat × Nat)) 100000) (by kernel_rfl) (by kernel_rfl) (by kernel_rfl) (fitB_spec (by kernel_rfl)) (fun listed f h => JW.start (Nat.le_refl _) listed f h) ?_ ?_
     ·intro i o ho
      have hi : i < 10 := (Array.getElem?_eq_some_iff.1 ho).1
      have hi' : i = 0 ∨ i = 1 ∨ i = 2 ∨ i = 3 ∨ i = 4 ∨ i = 5 ∨ i = 6 ∨ i = 7 ∨ i = 8 ∨ i = 9 := by omega
      clear hi
      rcases hi' with rfl | rfl | rfl | rfl | rfl | rfl | rfl | rfl | rfl | rfl
      all_goals (simp only [List.getElem?_toArray, List.getElem?_cons_zero, List.getElem?_cons_succ, Option.some.injEq] at ho; subst ho; intro listed f a w3 hJ hsz hls hun hdep hout hlat)
      ·rw [if_pos (by rfl)]
       intro K hK
       have q0 := hout 0 (outB_spec (by kernel_rfl))
       have hord := no_ord 0 listed
       refine wp_mv _ rfl (hK _ _ ?_)
       rw [show a.eval (.tmp 0) = .slice (some ⟨ab, o, none⟩) n cap from q0]
       exact hJ.plain HTY (by rw [hls]; decide) (Ex.refl _) (by rw [hT]; rfl) hord
      ·rw [if_pos (by rfl)]
       intro K hK
       have q7 := hout 7 (outB_spec (by kernel_rfl))
       have hord := no_ord 1 listed
       refine wp_mv _ rfl (hK _ _ ?_)
       rw [show a.eval (.tmp 7) = .int .i64 k from q7]
       exact hJ.plain HTY (by rw [hls]; decide) (Ex.refl _) (by rw [hT]; rfl) hord
      ·rw [if_pos (by rfl)]
       intro K hK
       have dd41 := hdep ⟨0, .data⟩ (by simp) rfl
       have q41 := dd41.2 _ rfl _ rfl
       have h41 := hJ.vals 0 dd41.1 no_c
       rw [hT] at h41
       rw [show f 0 = .slice (some ⟨ab, o, none⟩) n cap from h41] at q41
       clear h41
       clear dd41
       have dd42 := hdep ⟨1, .data⟩ (by simp) rfl
       have q42 := dd42.2 _ rfl _ rfl
       have h42 := hJ.vals 1 dd42.1 no_c
       rw [hT] at h42
       rw [show f 1 = .int .i64 k from h42] at q42
       clear h42
       clear dd42
       have hord := no_ord 2 listed
       rw [Array.getD_eq_getD_getElem?] at q41
       rw [Array.getD_eq_getD_getElem?] at q42
       clear hsz hdep hout hlat
       go_simp
       exact hK _ _ (hJ.plain HTY (by rw [hls]; decide) (Ex.refl _) (by rw [hT]; first | rfl | exact int_eq (by omega) | exact int_eq (by rw [IntKind.wrap_i64]; omega)) hord)
      ·rw [if_pos (by rfl)]
       intro K hK
       have dd43 := hdep ⟨2, .data⟩ (by simp) rfl
       have q43 := dd43.2 _ rfl _ rfl
       have h43 := hJ.vals 2 dd43.1 no_c
       rw [hT] at h43
       rw [show f 2 = .pointer (some ⟨ab, o + k * 42, none⟩) from h43] at q43
       clear h43
       clear dd43
       have hord := no_ord 3 listed
       rw [Array.getD_eq_getD_getElem?] at q43
       clear hsz hdep hout hlat
       go_simp
       exact hK _ _ (hJ.plain HTY (by rw [hls]; decide) (Ex.refl _) (by rw [hT]; first | rfl | exact int_eq (by omega) | exact int_eq (by rw [IntKind.wrap_i64]; omega)) hord)
      ·rw [if_pos (by rfl)]
       intro K hK
       have dd44 := hdep ⟨3, .data⟩ (by simp) rfl
       have q44 := dd44.2 _ rfl _ rfl
       have h44 := hJ.vals 3 dd44.1 no_c
       rw [hT] at h44
       rw [show f 3 = .pointer (some ⟨ab, o + k * 42, none⟩) from h44] at q44
       clear h44
       clear dd44
       have hord := no_ord 4 listed
       rw [Array.getD_eq_getD_getElem?] at q44
       clear hsz hdep hout hlat
       go_simp
       exact hK _ _ (hJ.plain HTY (by rw [hls]; decide) (Ex.refl _) (by rw [hT]; first | rfl | exact int_eq (by omega) | exact int_eq (by rw [IntKind.wrap_i64]; omega)) hord)
      ·rw [if_pos (by rfl)]
       intro K hK
       have dd45 := hdep ⟨4, .data⟩ (by simp) rfl
       have q45 := dd45.2 _ rfl _ rfl
       have h45 := hJ.vals 4 dd45.1 no_c
       rw [hT] at h45
       rw [show f 4 = .slice (some ⟨ab, o + k * 42, none⟩) 4 4 from h45] at q45
       clear h45
       clear dd45
       have hord := no_ord 5 listed
       have hcv := conv_id YO.out (range_ex YR.out hJ.ext.below HAB.out) (Nat.lt_of_lt_of_le HAB.out (Ex.sz' hJ.ext.below))
       rw [Array.getD_eq_getD_getElem?] at q45
       clear hsz hdep hout hlat
       go_simp
       exact hK _ _ (hJ.plain HTY (by rw [hls]; decide) (Ex.refl _) (by rw [hT]; rfl) hord)
      ·rw [if_pos (by rfl)]
       intro K hK
       have q3 := hout 3 (outB_spec (by kernel_rfl))
       have hord := no_ord 6 listed
       rw [Array.getD_eq_getD_getElem?] at q3
       clear hsz hdep hout hlat
       go_simp
       exact hK _ _ (hJ.plain HTY (by rw [hls]; decide) (Ex.refl _) (by rw [hT]; first | rfl | exact int_eq (by omega) | exact int_eq (by rw [IntKind.wrap_i64]; omega)) hord)
      ·rw [if_pos (by rfl)]
       intro K hK
       have dd47 := hdep ⟨6, .data⟩ (by simp) rfl
       have q47 := dd47.2 _ rfl _ rfl
       have h47 := hJ.vals 6 dd47.1 no_c
       rw [hT] at h47
       rw [show f 6 = .pointer (some ⟨g, 0, none⟩) from h47] at q47
       clear h47
       clear dd47
       have hord := no_ord 7 listed
       rw [Array.getD_eq_getD_getElem?] at q47
       clear hsz hdep hout hlat
       go_simp
       exact hK _ _ (hJ.plain HTY (by rw [hls]; decide) (Ex.refl _) (by rw [hT]; first | rfl | exact int_eq (by omega) | exact int_eq (by rw [IntKind.wrap_i64]; omega)) hord)
      ·rw [if_pos (by rfl)]
       intro K hK
       have dd48 := hdep ⟨7, .data⟩ (by simp) rfl
       have q48 := dd48.2 _ rfl _ rfl
       have h48 := hJ.vals 7 dd48.1 no_c
       rw [hT] at h48
       rw [show f 7 = .slice (some ⟨g, 0, none⟩) 4 4 from h48] at q48
       clear h48
       clear dd48
       have hord := no_ord 8 listed
       have xx := Ex.trans BX.out hJ.ext.below
       have hcv := conv_id (g := g) (off := 0) HXO.out (fun j u hu => by rw [Nat.zero_add, (A0.out.ext xx).2.cell]; simpa using hu) (A0.out.ext xx).lt
       clear xx
       rw [Array.getD_eq_getD_getElem?] at q48
       clear hsz hdep hout hlat
       go_simp
       exact hK _ _ (hJ.plain HTY (by rw [hls]; decide) (Ex.refl _) (by rw [hT]; rfl) hord)
      ·rw [if_pos (by rfl)]
       intro K hK
       have dd46 := hdep ⟨5, .data⟩ (by simp) rfl
       have q46 := dd46.2 _ rfl _ rfl
       have h46 := hJ.vals 5 dd46.1 no_c
       rw [hT] at h46
       rw [show f 5 = .string (strL y.id) from h46] at q46
       clear h46
       clear dd46
       have dd49 := hdep ⟨8, .data⟩ (by simp) rfl
       have q49 := dd49.2 _ rfl _ rfl
       have h49 := hJ.vals 8 dd49.1 no_c
       rw [hT] at h49
       rw [show f 8 = .string (strL x.id) from h49] at q49
       clear h49
       clear dd49
       have hord := no_ord 9 listed
       rw [Array.getD_eq_getD_getElem?] at q46
       rw [Array.getD_eq_getD_getElem?] at q49
       have hl := HLS.out
       clear hsz hdep hout hlat
       go_simp
       exact hK _ _ (hJ.plain HTY (by rw [hls]; decide) (Ex.refl _) (by rw [hT]; first | rfl | exact congrArg Value.bool hl | simp [hl]) hord)
     ·intro listed f w3 hall hJ
      have f9 : f 9 = .bool b := by
       have h := hJ.vals 9 (hall 9 (by simp)) no_c
       rw [hT] at h; exact h
      have xk := hJ.ext
      simp only [putAll, Act.put, List.setIfInBounds_toArray, List.set_cons_zero, List.set_cons_succ, Nat.zero_add, Nat.reduceAdd]
      rw [f9]
      clear f9
      clear hJ hall hT HTY
      generalize f 0 = y0
      generalize f 1 = y1
      generalize f 2 = y2
      generalize f 3 = y3
      generalize f 4 = y4
      generalize f 5 = y5
      generalize f 6 = y6
      generalize f 7 = y7
      generalize f 8 = y8
      have xw : Ex wr w3 := xk.below
      have YR3 := Lib.hid (range_ex YR.out xw HAB.out)
      replace BX := Lib.hid (Ex.trans BX.out xw)
      have rw9 := xw.row RW.out
      replace RW := Lib.hid rw9
      clear xk xw YR rw9
      cases b
      ·skip
       go_wp2_with (first | (with_reducible refine stop_load (t := 30) ?_) | (with_reducible refine stop_store (t := 30) ?_) | (with_reducible refine stop_load (t := 24) ?_) | (with_reducible refine stop_store (t := 24) ?_) | (with_reducible refine stop_build (t := 30) ?_) | (with_reducible refine stop_bs (t := 59) ?_) | (with_reducible refine stop_app ?_))
       (first | (refine ⟨?_, ?measure⟩; (repeat apply Exists.intro); refine ⟨?rel, rfl⟩) | refine ⟨?rel, ?measure⟩)
       case rel => exact ⟨k + 1, by omega, by go_num, Lib.hid (by rw [show gts (idn x.id) (xs.take (k + 1)) = gts (idn x.id) (xs.take k) from by unfold gts; rw [filter_take_succ HYK.out, if_neg (by rw [← HB.out]; decide), List.append_nil]]; exact RW.out), BX⟩
       case measure => simp [intOf]; omega
      ·skip
       go_wp2_with (first | (with_reducible refine stop_load (t := 30) ?_) | (with_reducible refine stop_store (t := 30) ?_) | (with_reducible refine stop_load (t := 24) ?_) | (with_reducible refine stop_store (t := 24) ?_) | (with_reducible refine stop_build (t := 30) ?_) | (with_reducible refine stop_bs (t := 59) ?_) | (with_reducible refine stop_app ?_))
       (with_reducible refine ⟨?_⟩); (with_reducible refine at_any ?_ ?_); (focus go_simp); refine fun K0 hK => ld_vr _ ab (o + k * 42) y YO.out rfl rfl YR3.out (hK _ _ ?_)
       clear hK
       go_wp2_with (first | (with_reducible refine stop_load (t := 30) ?_) | (with_reducible refine stop_store (t := 30) ?_) | (with_reducible refine stop_load (t := 24) ?_) | (with_reducible refine stop_store (t := 24) ?_) | (with_reducible refine stop_build (t := 30) ?_) | (with_reducible refine stop_bs (t := 59) ?_) | (with_reducible refine stop_app ?_))
       (with_reducible refine ⟨?_⟩); (with_reducible refine at_any ?_ ?_); (focus go_simp); refine fun K0 hK => wp_bsv _ y YO.out rfl rfl (hK _ _ ?_)
       clear hK
       have xa := Ex.alloc w3 (.cells y.C.toArray 30)
       have NB := Lib.hid (Bk.new (g := w3.heap.size) (w := w3) rfl 30 y.C.toArray)
       replace BX := Lib.hid (Ex.trans BX.out xa)
       have rw9 := xa.row RW.out
       generalize hw4 : w3.alloc (.cells y.C.toArray 30) = w4 at *
       obtain ⟨g2, hg⟩ : ∃ g, g = w3.heap.size := ⟨_, rfl⟩
       rw [← hg] at NB ⊢
       replace RW := Lib.hid rw9
       clear hw4 hg xa rw9
       have MR := Lib.hid (Many.rd (n := 1) (sz := 42) ⟨g2, rfl, NB.out⟩ (Vt.len YO.out))
       go_wp2_with (first | (with_reducible refine stop_load (t := 30) ?_) | (with_reducible refine stop_store (t := 30) ?_) | (with_reducible refine stop_load (t := 24) ?_) | (with_reducible refine stop_store (t := 24) ?_) | (with_reducible refine stop_build (t := 30) ?_) | (with_reducible refine stop_bs (t := 59) ?_) | (with_reducible refine stop_app ?_))
       obtain ⟨adx, ex, nx, rx⟩ := MR.out
       cases ex
       have RX := Lib.hid rx
       clear rx nx MR
       have hlen : (lts (idn x.id) xs ++ [x] ++ gts (idn x.id) (xs.take k)).length ≤ 100 := by 
               have hf : ((xs.take k).filter fun z => decide (idn x.id < idn z.id)).length ≤ 4 := Nat.le_trans (List.length_filter_le _ _) (by rw [List.length_take]; omega)
               have h2 := HLT.out; unfold gts; simp only [List.length_append, List.length_cons, List.length_nil]; omega
       (with_reducible refine ⟨?_⟩); (with_reducible refine at_any ?_ ?_); (focus go_simp); refine fun K0 hK => wp_rd _ _ 59 30 zeroVt.V 42 96 rfl Try.underlying59 Try.infoVt rfl (by decide) w1.heap.size (lts (idn x.id) xs ++ [x] ++ gts (idn x.id) (xs.take k)).length _ _ rfl RW.out BX.out.sz' _ 1 1 _ rfl RX.out (Nat.le_refl _) (fun h => by cases h) (Vt.C_one y) (by omega) (by omega) (fun v5 w5 r1 r2 => hK _ _ ?_)
       clear hK
       replace BX := Lib.hid (show Ex w1 w5 from Below.trans (show Below w1.heap.size w1 _ from BX.out) r2.below)
       replace RW := Lib.hid (RowOf.app r1)
       clear r1 r2 hlen
       go_wp2_with (first | (with_reducible refine stop_load (t := 30) ?_) | (with_reducible refine stop_store (t := 30) ?_) | (with_reducible refine stop_load (t := 24) ?_) | (with_reducible refine stop_store (t := 24) ?_) | (with_reducible refine stop_build (t := 30) ?_) | (with_reducible refine stop_bs (t := 59) ?_) | (with_reducible refine stop_app ?_))
       (first | (refine ⟨?_, ?measure⟩; (repeat apply Exists.intro); refine ⟨?rel, rfl⟩) | refine ⟨?rel, ?measure⟩)
       case rel => exact ⟨k + 1, by omega, by go_num, Lib.hid (by rw [show gts (idn x.id) (xs.take (k + 1)) = gts (idn x.id) (xs.take k) ++ [y] from by unfold gts; rw [filter_take_succ HYK.out, if_pos (by rw [← HB.out])]]; have h9 := RW.out; (try simp only [List.append_assoc] at h9 ⊢); exact h9), BX⟩
       case measure => simp [intOf]; omega
    ·obtain rfl : n = k := by omega
     have q1 : ¬ (n : Int) < (n : Int) := by omega
     rw [List.take_of_length_le (by rw [← HN.out]; exact Nat.le_refl _)] at RW
     go_wp2_with (first | (with_reducible refine stop_load (t := 30) ?_) | (with_reducible refine stop_store (t := 30) ?_) | (with_reducible refine stop_load (t := 24) ?_) | (with_reducible refine stop_store (t := 24) ?_) | (with_reducible refine stop_build (t := 30) ?_) | (with_reducible refine stop_bs (t := 59) ?_) | (with_reducible refine stop_app ?_))
     go_ret
     exact ⟨_, rfl, rown_less RW.out BW.out.sz', Ex.trans BW.out BX.out⟩
end Go.Proofs.Ytedljddjmojeeaa
