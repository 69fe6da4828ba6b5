/- Rd -/
import Derived.Test.YtmjfnpmnhehnkaaQbd
set_option maxRecDepth 100000
set_option maxHeartbeats 16000000
namespace Go.Proofs.Ytmjfnpmnhehnkaa
open Go.RowKit
def lts (X : Nat) (xs : List Vt) : List Vt := xs.filter fun x => decide (idn x.id < X)
def gts (X : Nat) (xs : List Vt) : List Vt := xs.filter fun x => decide (X < idn x.id)
theorem filter_take_succ {p : Vt → Bool} {xs : List Vt} {k : Nat} {x : Vt} (hx : xs[k]? = some x) : (xs.take (k + 1)).filter p = (xs.take k).filter p ++ (if p x = true then [x] else []) := by
 rw [List.take_add_one, List.filter_append, hx]
 simp only [Option.toList, List.filter_cons, List.filter_nil]
 
def RowOf (w : World) (B : Nat) (v : Value) (xs : List Vt) : Prop := w.ownsRow B 36 42 v xs.length (xs.flatMap Vt.C)
theorem RowOf.app {w2 : World} {B : Nat} {v' : Value} {xs : List Vt} {z : Vt} (hr : w2.ownsRow B 36 42 v' (xs.length + 1) (xs.flatMap Vt.C ++ z.C)) : RowOf w2 B v' (xs ++ [z]) := by
 unfold RowOf; rw [List.length_append, List.flatMap_append]; simpa using hr
theorem lts_take {ms : List Vt} {X p : Nat} (hb : BI ms.length (idF ms) X p) : lts X ms = ms.take p := by
 unfold lts
 conv => lhs; rw [← List.take_append_drop p ms]
 rw [List.filter_append, List.filter_eq_self.2, List.filter_eq_nil_iff.2, List.append_nil]
 ·intro x hx
  obtain ⟨i, hi, e⟩ := List.getElem_of_mem hx
  rw [List.getElem_drop] at e
  have hl : p + i < ms.length := by rw [List.length_drop] at hi; omega
  have h1 := hb.2.2 (p + i) (by omega) hl
  rw [idF_at ms (p + i) x (by rw [List.getElem?_eq_getElem hl, e])] at h1
  simp; omega
 intro x hx
 obtain ⟨i, hi, e⟩ := List.getElem_of_mem hx
 rw [List.getElem_take] at e
 have hl : i < p ∧ i < ms.length := by rw [List.length_take] at hi; omega
 have h1 := hb.2.1 i hl.1
 rw [idF_at ms i x (by rw [List.getElem?_eq_getElem hl.2, e])] at h1
 simpa using h1
theorem gts_drop {ms : List Vt} {X p q : Nat} (hb : BI ms.length (idF ms) X p) (hq : p ≤ q) (h1 : ∀ i, i < q → idF ms i ≤ X) (h2 : ∀ i, q ≤ i → i < ms.length → X < idF ms i) : gts X ms = ms.drop q := by
 unfold gts
 conv => lhs; rw [← List.take_append_drop q ms]
 rw [List.filter_append, List.filter_eq_nil_iff.2, List.filter_eq_self.2, List.nil_append]
 ·intro x hx
  obtain ⟨i, hi, e⟩ := List.getElem_of_mem hx
  rw [List.getElem_drop] at e
  have hl : q + i < ms.length := by rw [List.length_drop] at hi; omega
  have h3 := h2 (q + i) (by omega) hl
  rw [idF_at ms (q + i) x (by rw [List.getElem?_eq_getElem hl, e])] at h3
  simpa using h3
 intro x hx
 obtain ⟨i, hi, e⟩ := List.getElem_of_mem hx
 rw [List.getElem_take] at e
 have hl : i < q ∧ i < ms.length := by rw [List.length_take] at hi; omega
 have h3 := h1 i hl.1
 rw [idF_at ms i x (by rw [List.getElem?_eq_getElem hl.2, e])] at h3
 simp; omega
def plc (x : Vt) (xs : List Vt) : List Vt := lts (idn x.id) xs ++ [x] ++ gts (idn x.id) xs
def Flag (x : Vt) (xs : List Vt) (k : Nat) (b : Bool) : Prop := (b = false → ∀ q, q < k → idF xs q < idn x.id) ∧ (b = true → ∃ q, q < k ∧ idn x.id ≤ idF xs q)
def PlcPost (xs : List Vt) (x : Vt) (w : World) (e : Ending) (w' : World) : Prop := ∃ v, e = .returned v ∧ RowOf w' w.heap.size v (plc x xs) ∧ Ex w w'
def pacc (x : Vt) (xs : List Vt) (k : Nat) (b : Bool) : List Vt := if b = true then plc x (xs.take k) else lts (idn x.id) (xs.take k)
theorem pacc_len (x : Vt) (xs : List Vt) (k : Nat) (b : Bool) (hk : xs.length ≤ 4) : (pacc x xs k b).length ≤ 9 := by
 have h1 := List.length_filter_le (fun z : Vt => decide (idn z.id < idn x.id)) (xs.take k)
 have h2 := List.length_filter_le (fun z : Vt => decide (idn x.id < idn z.id)) (xs.take k)
 have h3 : (xs.take k).length ≤ 4 := by rw [List.length_take]; omega
 unfold pacc plc lts gts
 split
 ·simp only [List.length_append, List.length_cons, List.length_nil]; omega
 omega
theorem gts_none {X : Nat} {xs : List Vt} {k : Nat} (h : ∀ q, q < k → idF xs q < X) (hk : k ≤ xs.length) : gts X (xs.take k) = [] := by
 unfold gts
 rw [List.filter_eq_nil_iff]
 intro z hz
 obtain ⟨i, hi, e⟩ := List.getElem_of_mem hz
 have hi2 : i < k := by rw [List.length_take] at hi; omega
 have hi3 : xs[i]? = some z := by rw [← e, List.getElem_take]; exact List.getElem?_eq_getElem (by omega)
 have h1 := h i hi2
 rw [idF_at xs i z hi3] at h1
 simp; omega
theorem pacc_lt {x y : Vt} {xs : List Vt} {k : Nat} (hy : xs[k]? = some y) (h : idn y.id < idn x.id) : pacc x xs (k + 1) false = pacc x xs k false ++ [y] := by
 unfold pacc lts
 rw [if_neg (by decide), if_neg (by decide), filter_take_succ hy, if_pos (by simpa using h)]
theorem pacc_eq {x y : Vt} {xs : List Vt} {k : Nat} (hy : xs[k]? = some y) (h : idn y.id = idn x.id) (hp : ∀ q, q < k → idF xs q < idn x.id) : pacc x xs (k + 1) true = pacc x xs k false ++ [x] := by
 have hk : k ≤ xs.length := Nat.le_of_lt (List.getElem?_eq_some_iff.1 hy).1
 have g0 := gts_none hp hk
 unfold pacc plc
 rw [if_pos rfl, if_neg (by decide)]
 have e1 : lts (idn x.id) (xs.take (k + 1)) = lts (idn x.id) (xs.take k) := by unfold lts; rw [filter_take_succ hy, if_neg (by simp; omega), List.append_nil]
 have e2 : gts (idn x.id) (xs.take (k + 1)) = [] := by
  have : gts (idn x.id) (xs.take (k + 1)) = gts (idn x.id) (xs.take k) := by unfold gts; rw [filter_take_succ hy, if_neg (by simp; omega), List.append_nil]
  rw [this, g0]
 rw [e1, e2, List.append_nil]
theorem pacc_gt {x y : Vt} {xs : List Vt} {k : Nat} (hy : xs[k]? = some y) (h : idn x.id < idn y.id) (hp : ∀ q, q < k → idF xs q < idn x.id) : pacc x xs (k + 1) true = pacc x xs k false ++ [x] ++ [y] := by
 have hk : k ≤ xs.length := Nat.le_of_lt (List.getElem?_eq_some_iff.1 hy).1
 have g0 := gts_none hp hk
 unfold pacc plc
 rw [if_pos rfl, if_neg (by decide)]
 have e1 : lts (idn x.id) (xs.take (k + 1)) = lts (idn x.id) (xs.take k) := by unfold lts; rw [filter_take_succ hy, if_neg (by simp; omega), List.append_nil]
 have e2 : gts (idn x.id) (xs.take (k + 1)) = [y] := by
  have : gts (idn x.id) (xs.take (k + 1)) = gts (idn x.id) (xs.take k) ++ [y] := by unfold gts; rw [filter_take_succ hy, if_pos (by simpa using h)]
  rw [this, g0]; rfl
 rw [e1, e2]
theorem pacc_on {x y : Vt} {xs : List Vt} {k : Nat} (hy : xs[k]? = some y) (h : idn x.id < idn y.id) : pacc x xs (k + 1) true = pacc x xs k true ++ [y] := by
 unfold pacc plc
 rw [if_pos rfl, if_pos rfl]
 have e1 : lts (idn x.id) (xs.take (k + 1)) = lts (idn x.id) (xs.take k) := by unfold lts; rw [filter_take_succ hy, if_neg (by simp; omega), List.append_nil]
 have e2 : gts (idn x.id) (xs.take (k + 1)) = gts (idn x.id) (xs.take k) ++ [y] := by unfold gts; rw [filter_take_succ hy, if_pos (by simpa using h)]
 rw [e1, e2, List.append_assoc, List.append_assoc, List.append_assoc]
theorem pacc_end {x : Vt} {xs : List Vt} (hp : ∀ q, q < xs.length → idF xs q < idn x.id) : plc x xs = pacc x xs xs.length false ++ [x] := by
 have g0 := gts_none hp (Nat.le_refl _)
 unfold pacc plc
 rw [if_neg (by decide), List.take_length] at *
 rw [g0, List.append_nil]
theorem place_any (ad : Option Addr) (cap : Nat) (xs : List Vt) (hL : xs.length ≤ 4) (hsr : ∀ i j, i < j → j < xs.length → idF xs i < idF xs j) (x : Vt) (hx : x.Ok) (w : World) (hin : Vp.In ad cap xs w) : Calls Try.prog 64 #[.slice ad xs.length cap, x.V] w (PlcPost xs x w) := by
 obtain ⟨cs, hcs⟩ : ∃ cs, cs = x.C.toArray := ⟨_, rfl⟩
 have A0 : Hid (VB (w.alloc (.cells cs 36)) w.heap.size x) := Hi ⟨hx, by rw [hcs]; exact Bk.new rfl _ _⟩
 have BW : Hid (Ex w (w.alloc (.cells cs 36))) := Hi (Ex.alloc w _)
 have HIN := Hi (hin.ext BW.out)
 have HXO := Hi hx
 have HSR := Hi hsr
 obtain ⟨n, hn⟩ : ∃ n, n = xs.length := ⟨_, rfl⟩
 have HN := Hi hn
 have hnb : n ≤ 4 := by rw [hn]; exact hL
 rw [← hn, show (Calls Try.prog 64 #[.slice ad n cap, x.V] w) = (Calls Try.prog 64 #[.slice ad n cap, .agg cs] w) by rw [hcs]; rfl]
 have HL4 := Hi hL
 clear hcs hx hin hn hL hsr
 go_enter Try.func64, Try.ntmps64
 go_wp2_with (first | ((with_reducible refine so4 [36, 1000+36, 32, 1000+32, 4000+36] ?_ ?_); (focus rfl)) | (with_reducible refine stop_bs (t := 37) ?_) | (with_reducible refine stop_app ?_))
 skip
 skip
 generalize hw1 : (w.alloc (.cells cs 36)) = w1 at *
 clear hw1
 obtain ⟨g, hg⟩ : ∃ g, g = w.heap.size := ⟨_, rfl⟩
 rw [← hg] at A0 ⊢
 clear hg
 go_loopw [6, 5, 7] (fun v6 v5 i wr => ∃ (k : Nat) (b : Bool), k ≤ n ∧ i = .int .i64 k ∧ v6 = .bool b ∧ Hid (Flag x xs k b) ∧ Hid (RowOf wr w1.heap.size v5 (pacc x xs k b)) ∧ Hid (Ex w1 wr)) (fun _ _ i _ => n - (intOf i).toNat)
 case atStart => exact ⟨0, false, by omega, rfl, rfl, Hi ⟨fun _ q hq => absurd hq (Nat.not_lt_zero q), fun h => by cases h⟩, Hi (World.ownsRow_nil _ _ _ _), Hi (Ex.refl _)⟩
 obtain ⟨k, b, hk, rfl, rfl, HF, RW, BX⟩ := hrel
 by_cases hlt : k < n
 rotate_left
 ·obtain rfl : k = n := by omega
  have q1 : ¬ (k : Int) < (k : Int) := by omega
  cases b
  rotate_left
  ·skip
   go_wp2_with fail
   go_ret
   exact ⟨_, rfl, rown_less (by have h9 := RW.out; unfold pacc at h9; rw [if_pos rfl, List.take_of_length_le (by rw [← HN.out]; exact Nat.le_refl _)] at h9; exact h9) BW.out.sz', Ex.trans BW.out BX.out⟩
  have HLEN : Hid ((pacc x xs k false).length ≤ 20) := Hi (by have := pacc_len x xs k false HL4.out; omega)
  go_wp2_with (first | ((with_reducible refine so4 [36, 1000+36, 32, 1000+32, 4000+36] ?_ ?_); (focus rfl)) | (with_reducible refine stop_bs (t := 37) ?_) | (with_reducible refine stop_app ?_))
  refine at9 (by go_simp) fun K0 hK => ld_v _ g x rfl rfl (A0.out.ext BX.out) (hK _ _ ?_)
  clear hK
  go_wp2_with (first | ((with_reducible refine so4 [36, 1000+36, 32, 1000+32, 4000+36] ?_ ?_); (focus rfl)) | (with_reducible refine stop_bs (t := 37) ?_) | (with_reducible refine stop_app ?_))
  refine at9 (by go_simp) fun K0 hK => wp_bsv _ x HXO.out rfl rfl (hK _ _ ?_)
  clear hK
  have xa := Ex.alloc wr (.cells x.C.toArray 36)
  have NB := Hi (Bk.new (g := wr.heap.size) (w := wr) rfl 36 x.C.toArray)
  replace BX := Hi (Ex.trans BX.out xa)
  have rw9 := xa.row RW.out
  generalize hw4 : wr.alloc (.cells x.C.toArray 36) = w4 at *
  obtain ⟨g2, hg⟩ : ∃ g, g = wr.heap.size := ⟨_, rfl⟩
  rw [← hg] at NB ⊢
  replace RW := Hi rw9
  clear hw4 hg xa rw9
  have MR := Hi (Many.rd (n := 1) (sz := 42) ⟨g2, rfl, NB.out⟩ (Vt.len HXO.out))
  go_wp2_with (first | ((with_reducible refine so4 [36, 1000+36, 32, 1000+32, 4000+36] ?_ ?_); (focus rfl)) | (with_reducible refine stop_bs (t := 37) ?_) | (with_reducible refine stop_app ?_))
  obtain ⟨adx, ex, nx, rx⟩ := MR.out
  cases ex
  have RX := Hi rx
  clear rx nx MR
  refine at9 (by go_simp) fun K0 hK => wp_rd _ _ 37 36 zeroVt.V 42 96 rfl Try.underlying37 Try.infoVt rfl (by decide) w1.heap.size (pacc x xs k false).length _ _ rfl RW.out BX.out.sz' _ 1 1 _ rfl RX.out (Nat.le_refl _) (fun h => by cases h) (Vt.C_one x) (by have := HLEN.out; omega) (by have := HLEN.out; omega) (fun v5 w5 r1 r2 => hK _ _ ?_)
  clear hK
  replace BX := Hi (show Ex w1 w5 from Below.trans (show Below w1.heap.size w1 _ from BX.out) r2.below)
  replace RW := Hi (RowOf.app r1)
  clear r1 r2 NB RX
  go_wp2_with fail
  go_ret
  exact ⟨_, rfl, rown_less (by rw [pacc_end (fun q hq => HF.out.1 rfl q (by rw [HN.out]; exact hq)), ← HN.out]; exact RW.out) BW.out.sz', Ex.trans BW.out BX.out⟩
 have q0 : (0 : Int) ≤ (k : Int) := by omega
 have q1 : (k : Int) < (n : Int) := by omega
 obtain ⟨y, hy⟩ : ∃ z, xs[k]? = some z := ⟨_, List.getElem?_eq_getElem (by rw [← HN.out]; omega)⟩
 obtain ⟨ab, o, rfl, hab2, hra⟩ := (HIN.out.ext BX.out).read (by rw [← HN.out]; omega)
 have YR := Hi (hra k y hy)
 have YO := Hi (HIN.out.ok k y hy)
 have HYK := Hi hy
 have HAB := Hi hab2
 have HYF : Hid (idF xs k = idn y.id) := Hi (idF_at xs k y hy)
 have HLEN : Hid ((pacc x xs k b).length ≤ 9) := Hi (pacc_len x xs k b HL4.out)
 clear hra hab2 hy
 cases b
 rotate_left
 ·have HGT : Hid (idn x.id < idn y.id) := Hi (by
   obtain ⟨q, hq, hle⟩ := HF.out.2 rfl
   have h2 := HSR.out q k hq (by rw [← HN.out]; exact hlt)
   rw [HYF.out] at h2; omega)
  have HNE : Hid (¬ y.id = x.id) := Hi (fun e => by have := HGT.out; rw [e] at this; omega)
  go_wp2_with (first | ((with_reducible refine so4 [36, 1000+36, 32, 1000+32, 4000+36] ?_ ?_); (focus rfl)) | (with_reducible refine stop_bs (t := 37) ?_) | (with_reducible refine stop_app ?_))
  have hS0 : ∀ (listed : Array Bool) (f : Nat → Value), (∀ i, listed.getD i false = false) → Ex wr wr.drew := fun _ _ _ => (Below.refl wr.heap.size wr).drew
  obtain ⟨T, hT⟩ : ∃ T : List (Value → Prop), T = [(fun zz => zz = .bool true), (fun zz => zz = .bool false), (fun zz => zz = .bool false), (fun _ => True), (fun _ => True), (fun _ => True), (fun _ => True), (fun _ => True), (fun _ => True), (fun _ => True), (fun _ => True), (fun _ => True), (fun _ => True), (fun zz => zz = .bool false)] := ⟨_, rfl⟩
  refine wp_region_gen (JS T ([] : List (Nat × Nat)) (fun _ _ wz => Ex wr wz)) (by kernel_rfl) (by kernel_rfl) (by kernel_rfl) (fitB_spec (by kernel_rfl)) (fun listed f h => JS.start listed f h (hS0 listed f h)) ?_ ?_
  ·intro i o ho
   have hi : i < 14 := (Array.getElem?_eq_some_iff.1 ho).1
   have hi' : i = 0 ∨ i = 1 ∨ i = 2 ∨ i = 3 ∨ i = 4 ∨ i = 5 ∨ i = 6 ∨ i = 7 ∨ i = 8 ∨ i = 9 ∨ i = 10 ∨ i = 11 ∨ i = 12 ∨ i = 13 := by omega
   clear hi
   rcases hi' with rfl | rfl | rfl | rfl | rfl | rfl | rfl | rfl | rfl | rfl | rfl | rfl | rfl | rfl
   all_goals (simp only [List.getElem?_toArray, List.getElem?_cons_zero, List.getElem?_cons_succ, Option.some.injEq] at ho; subst ho; intro listed f a w3 hJ hsz hls hun hdep hout hlat; first | (rw [if_pos (by rfl)]; intro K hK) | skip)
   ·have q6 := hout 6 ob
    exact wp_mw _ rfl q6 (hK _ _ (hJ.nx hls hT rfl rfl hJ.st nh))
   ·have q14 := hJ.iq hT (hdep ⟨0, .data⟩ (by simp) rfl) rfl _ rfl _ rfl
    clear hsz hdep hout hlat
    go_simp
    exact hK _ _ (hJ.nx hls hT rfl rfl hJ.st nh)
   ·have q15 := hJ.is hT (hdep ⟨1, .data⟩ (by simp) rfl) rfl _ rfl _ rfl
    exact wp_mw _ rfl q15 (hK _ _ (hJ.nx hls hT rfl rfl hJ.st nh))
   iterate 10
    focus
     have kg := hJ.is hT (hdep ⟨2, .guard⟩ (by simp) rfl) rfl _ rfl _ rfl
     rw [if_neg (not_wanted rfl rfl rfl kg (by decide))]
     exact hJ.nx hls hT rfl (by first | exact trivial | rfl) hJ.st nh
   ·have q16 := hJ.iq hT (hdep ⟨2, .data⟩ (by simp) rfl) rfl _ rfl _ rfl
    have dd26 := hdep ⟨12, .data⟩ (by simp) rfl
    have q26 := dd26.2 _ rfl _ rfl
    rw [gd9] at q26
    clear hsz hdep hout hlat
    go_simp
    exact hK _ _ (hJ.nx hls hT rfl rfl hJ.st nh)
  intro listed f w3 hall hJ
  have f13 := hJ.fa hT (hall 13 (by simp)) rfl
  have hst := hJ.st
  simp only [putAll, Act.put, List.setIfInBounds_toArray, List.set_cons_zero, List.set_cons_succ, Nat.zero_add, Nat.reduceAdd]
  have xx : Ex wr w3 := hst
  rw [f13]
  clear f13
  clear hJ hall hT
  clear hst hS0
  replace YR := Hi (range_ex YR.out xx HAB.out)
  replace HAB := Hi (Nat.lt_of_lt_of_le HAB.out (Below.size xx))
  have rw9 := Ex.row xx RW.out
  replace BX := Hi (Ex.trans BX.out xx)
  replace RW := Hi rw9
  clear xx rw9
  go_wp2_with (first | ((with_reducible refine so4 [36, 1000+36, 32, 1000+32, 4000+36] ?_ ?_); (focus rfl)) | (with_reducible refine stop_bs (t := 37) ?_) | (with_reducible refine stop_app ?_))
  have hS0 : ∀ (listed : Array Bool) (f : Nat → Value), (∀ i, listed.getD i false = false) → Ex w3 w3.drew := fun _ _ _ => (Below.refl w3.heap.size w3).drew
  obtain ⟨T, hT⟩ : ∃ T : List (Value → Prop), T = [(fun zz => zz = .slice (some ⟨ab, o, none⟩) n cap), (fun zz => zz = .int .i64 (k : Int)), (fun zz => zz = .pointer (some ⟨ab, o + k * 42, none⟩)), (fun zz => zz = .pointer (some ⟨ab, o + k * 42, none⟩)), (fun zz => zz = digV y.id), (fun zz => zz = .pointer (some ⟨g, 0, none⟩)), (fun zz => zz = digV x.id), (fun zz => zz = .bool (!decide (y.id = x.id)))] := ⟨_, rfl⟩
  refine wp_region_gen (JS T ([] : List (Nat × Nat)) (fun _ _ wz => Ex w3 wz)) (by kernel_rfl) (by kernel_rfl) (by kernel_rfl) (fitB_spec (by kernel_rfl)) (fun listed f h => JS.start listed f h (hS0 listed f h)) ?_ ?_
  ·intro i o ho
   have hi : i < 8 := (Array.getElem?_eq_some_iff.1 ho).1
   have hi' : i = 0 ∨ i = 1 ∨ i = 2 ∨ i = 3 ∨ i = 4 ∨ i = 5 ∨ i = 6 ∨ i = 7 := by omega
   clear hi
   rcases hi' with rfl | rfl | rfl | rfl | rfl | rfl | rfl | rfl
   all_goals (simp only [List.getElem?_toArray, List.getElem?_cons_zero, List.getElem?_cons_succ, Option.some.injEq] at ho; subst ho; intro listed f a w6 hJ hsz hls hun hdep hout hlat; first | (rw [if_pos (by rfl)]; intro K hK) | skip)
   ·have q0 := hout 0 ob
    exact wp_mw _ rfl q0 (hK _ _ (hJ.nx hls hT rfl rfl hJ.st nh))
   ·have q7 := hout 7 ob
    exact wp_mw _ rfl q7 (hK _ _ (hJ.nx hls hT rfl rfl hJ.st nh))
   ·have q32 := hJ.iq hT (hdep ⟨0, .data⟩ (by simp) rfl) rfl _ rfl _ rfl
    have q33 := hJ.iq hT (hdep ⟨1, .data⟩ (by simp) rfl) rfl _ rfl _ rfl
    clear hsz hdep hout hlat
    go_simp
    exact hK _ _ (hJ.nx hls hT rfl rfl hJ.st nh)
   ·have q34 := hJ.iq hT (hdep ⟨2, .data⟩ (by simp) rfl) rfl _ rfl _ rfl
    clear hsz hdep hout hlat
    go_simp
    exact hK _ _ (hJ.nx hls hT rfl rfl hJ.st nh)
   ·have q35 := hJ.is hT (hdep ⟨3, .data⟩ (by simp) rfl) rfl _ rfl _ rfl
    exact ld_vid9 _ ab (o + k * 42) y YO.out rfl q35 (range_ex YR.out hJ.st HAB.out) (hK _ _ (hJ.nx hls hT rfl rfl hJ.st nh))
   ·have q3 := hout 3 ob
    rw [gd9] at q3
    clear hsz hdep hout hlat
    go_simp
    exact hK _ _ (hJ.nx hls hT rfl rfl hJ.st nh)
   ·have q37 := hJ.is hT (hdep ⟨5, .data⟩ (by simp) rfl) rfl _ rfl _ rfl
    exact ld_vid _ g x rfl q37 (A0.out.ext (Ex.trans BX.out hJ.st)) (hK _ _ (hJ.nx hls hT rfl rfl hJ.st nh))
   have q36 := hJ.is hT (hdep ⟨4, .data⟩ (by simp) rfl) rfl _ rfl _ rfl
   have q38 := hJ.is hT (hdep ⟨6, .data⟩ (by simp) rfl) rfl _ rfl _ rfl
   exact wp_neq_id _ _ _ rfl y.id x.id YO.out.idN HXO.out.idN q36 q38 (hK _ _ (hJ.nx hls hT rfl rfl hJ.st nh))
  intro listed f w6 hall hJ
  have f7 := hJ.fa hT (hall 7 (by simp)) rfl
  have hst := hJ.st
  simp only [putAll, Act.put, List.setIfInBounds_toArray, List.set_cons_zero, List.set_cons_succ, Nat.zero_add, Nat.reduceAdd]
  have xx : Ex w3 w6 := hst
  rw [f7]
  clear f7
  clear hJ hall hT
  clear hst hS0
  replace YR := Hi (range_ex YR.out xx HAB.out)
  replace HAB := Hi (Nat.lt_of_lt_of_le HAB.out (Below.size xx))
  have rw9 := Ex.row xx RW.out
  replace BX := Hi (Ex.trans BX.out xx)
  replace RW := Hi rw9
  clear xx rw9
  rw [decide_eq_false HNE.out]
  rw [show (!false) = true from rfl]
  go_wp2_with (first | ((with_reducible refine so4 [36, 1000+36, 32, 1000+32, 4000+36] ?_ ?_); (focus rfl)) | (with_reducible refine stop_bs (t := 37) ?_) | (with_reducible refine stop_app ?_))
  refine at9 (by go_simp) fun K0 hK => ld_vr _ ab (o + k * 42) y YO.out rfl rfl YR.out (hK _ _ ?_)
  clear hK
  go_wp2_with (first | ((with_reducible refine so4 [36, 1000+36, 32, 1000+32, 4000+36] ?_ ?_); (focus rfl)) | (with_reducible refine stop_bs (t := 37) ?_) | (with_reducible refine stop_app ?_))
  replace HLEN : Hid ((pacc x xs k true).length ≤ 30) := Hi (by have := HLEN.out; omega)
  refine at9 (by go_simp) fun K0 hK => wp_bsv _ y YO.out rfl rfl (hK _ _ ?_)
  clear hK
  have xa := Ex.alloc w6 (.cells y.C.toArray 36)
  have NB := Hi (Bk.new (g := w6.heap.size) (w := w6) rfl 36 y.C.toArray)
  replace BX := Hi (Ex.trans BX.out xa)
  have rw9 := xa.row RW.out
  generalize hw4 : w6.alloc (.cells y.C.toArray 36) = w4 at *
  obtain ⟨g2, hg⟩ : ∃ g, g = w6.heap.size := ⟨_, rfl⟩
  rw [← hg] at NB ⊢
  replace RW := Hi rw9
  clear hw4 hg xa rw9
  have MR := Hi (Many.rd (n := 1) (sz := 42) ⟨g2, rfl, NB.out⟩ (Vt.len YO.out))
  go_wp2_with (first | ((with_reducible refine so4 [36, 1000+36, 32, 1000+32, 4000+36] ?_ ?_); (focus rfl)) | (with_reducible refine stop_bs (t := 37) ?_) | (with_reducible refine stop_app ?_))
  obtain ⟨adx, ex, nx, rx⟩ := MR.out
  cases ex
  have RX := Hi rx
  clear rx nx MR
  refine at9 (by go_simp) fun K0 hK => wp_rd _ _ 37 36 zeroVt.V 42 96 rfl Try.underlying37 Try.infoVt rfl (by decide) w1.heap.size (pacc x xs k true).length _ _ rfl RW.out BX.out.sz' _ 1 1 _ rfl RX.out (Nat.le_refl _) (fun h => by cases h) (Vt.C_one y) (by have := HLEN.out; omega) (by have := HLEN.out; omega) (fun v5 w5 r1 r2 => hK _ _ ?_)
  clear hK
  replace BX := Hi (show Ex w1 w5 from Below.trans (show Below w1.heap.size w1 _ from BX.out) r2.below)
  replace RW := Hi (RowOf.app r1)
  clear r1 r2 NB RX
  go_wp2_with (first | ((with_reducible refine so4 [36, 1000+36, 32, 1000+32, 4000+36] ?_ ?_); (focus rfl)) | (with_reducible refine stop_bs (t := 37) ?_) | (with_reducible refine stop_app ?_))
  have H1 : Hid (Flag x xs (k + 1) true) := Hi (show Flag x xs (k + 1) true from And.intro (fun h => by cases h) (fun _ => by obtain ⟨q, hq, h⟩ := HF.out.2 rfl; exact ⟨q, by omega, h⟩))
  (first | (refine ⟨?_, ?measure⟩; (repeat apply Exists.intro); refine ⟨?rel, rfl⟩) | refine ⟨?rel, ?measure⟩)
  case rel => exact ⟨k + 1, true, by omega, by go_num, rfl, H1, Hi (by rw [pacc_on HYK.out HGT.out]; exact RW.out), BX⟩
  case measure => simp [intOf]; omega
 have hls : (Op.bytesLess (strL x.id).toList (strL y.id).toList || (strL x.id).toList == (strL y.id).toList) = decide (idn x.id ≤ idn y.id) := by
  rw [less_str HXO.out.idN YO.out.idN, beq_str HXO.out.idN YO.out.idN]
  rcases Nat.lt_trichotomy (idn x.id) (idn y.id) with h | h | h
  ·rw [decide_eq_true h, decide_eq_true (Nat.le_of_lt h)]; rfl
  ·rw [decide_eq_false (by omega : ¬ idn x.id < idn y.id), decide_eq_true h, decide_eq_true (Nat.le_of_eq h)]; rfl
  ·rw [decide_eq_false (by omega : ¬ idn x.id < idn y.id), decide_eq_false (by omega : ¬ idn x.id = idn y.id), decide_eq_false (by omega : ¬ idn x.id ≤ idn y.id)]; rfl
 obtain ⟨c, hc⟩ : ∃ c, c = decide (idn x.id ≤ idn y.id) := ⟨_, rfl⟩
 rw [← hc] at hls
 have HLS := Hi hls
 have HC := Hi hc
 clear hls hc
 go_wp2_with (first | ((with_reducible refine so4 [36, 1000+36, 32, 1000+32, 4000+36] ?_ ?_); (focus rfl)) | (with_reducible refine stop_bs (t := 37) ?_) | (with_reducible refine stop_app ?_))
 have hS0 : ∀ (listed : Array Bool) (f : Nat → Value), (∀ i, listed.getD i false = false) → Ex wr wr.drew := fun _ _ _ => (Below.refl wr.heap.size wr).drew
 obtain ⟨T, hT⟩ : ∃ T : List (Value → Prop), T = [(fun zz => zz = .bool false), (fun zz => zz = .bool true), (fun zz => zz = .bool true), (fun zz => zz = .pointer (some ⟨g, 0, none⟩)), (fun zz => zz = .slice (some ⟨g, 0, none⟩) 4 4), (fun zz => zz = .string (strL x.id)), (fun zz => zz = .slice (some ⟨ab, o, none⟩) n cap), (fun zz => zz = .int .i64 (k : Int)), (fun zz => zz = .pointer (some ⟨ab, o + k * 42, none⟩)), (fun zz => zz = .pointer (some ⟨ab, o + k * 42, none⟩)), (fun zz => zz = .slice (some ⟨ab, o + k * 42, none⟩) 4 4), (fun zz => zz = .string (strL y.id)), (fun zz => zz = .bool c), (fun zz => zz = .bool c)] := ⟨_, rfl⟩
 refine wp_region_gen (JS T ([] : List (Nat × Nat)) (fun _ _ wz => Ex wr wz)) (by kernel_rfl) (by kernel_rfl) (by kernel_rfl) (fitB_spec (by kernel_rfl)) (fun listed f h => JS.start listed f h (hS0 listed f h)) ?_ ?_
 ·intro i o ho
  have hi : i < 14 := (Array.getElem?_eq_some_iff.1 ho).1
  have hi' : i = 0 ∨ i = 1 ∨ i = 2 ∨ i = 3 ∨ i = 4 ∨ i = 5 ∨ i = 6 ∨ i = 7 ∨ i = 8 ∨ i = 9 ∨ i = 10 ∨ i = 11 ∨ i = 12 ∨ i = 13 := by omega
  clear hi
  rcases hi' with rfl | rfl | rfl | rfl | rfl | rfl | rfl | rfl | rfl | rfl | rfl | rfl | rfl | rfl
  all_goals (simp only [List.getElem?_toArray, List.getElem?_cons_zero, List.getElem?_cons_succ, Option.some.injEq] at ho; subst ho; intro listed f a w3 hJ hsz hls hun hdep hout hlat; first | (rw [if_pos (by rfl)]; intro K hK) | skip)
  ·have q6 := hout 6 ob
   exact wp_mw _ rfl q6 (hK _ _ (hJ.nx hls hT rfl rfl hJ.st nh))
  ·have q14 := hJ.iq hT (hdep ⟨0, .data⟩ (by simp) rfl) rfl _ rfl _ rfl
   clear hsz hdep hout hlat
   go_simp
   exact hK _ _ (hJ.nx hls hT rfl rfl hJ.st nh)
  ·have q15 := hJ.is hT (hdep ⟨1, .data⟩ (by simp) rfl) rfl _ rfl _ rfl
   exact wp_mw _ rfl q15 (hK _ _ (hJ.nx hls hT rfl rfl hJ.st nh))
  ·have kg := hJ.is hT (hdep ⟨2, .guard⟩ (by simp) rfl) rfl _ rfl _ rfl
   rw [if_pos (wanted_of rfl rfl rfl kg)]
   clear kg
   intro K hK
   have q3 := hout 3 ob
   rw [gd9] at q3
   clear hsz hdep hout hlat
   go_simp
   exact hK _ _ (hJ.nx hls hT rfl rfl hJ.st nh)
  ·have kg := hJ.is hT (hdep ⟨2, .guard⟩ (by simp) rfl) rfl _ rfl _ rfl
   rw [if_pos (wanted_of rfl rfl rfl kg)]
   clear kg
   intro K hK
   have q17 := hJ.iq hT (hdep ⟨3, .data⟩ (by simp) rfl) rfl _ rfl _ rfl
   clear hsz hdep hout hlat
   go_simp
   exact hK _ _ (hJ.nx hls hT rfl rfl hJ.st nh)
  ·have kg := hJ.is hT (hdep ⟨2, .guard⟩ (by simp) rfl) rfl _ rfl _ rfl
   rw [if_pos (wanted_of rfl rfl rfl kg)]
   clear kg
   intro K hK
   have q18 := hJ.iq hT (hdep ⟨4, .data⟩ (by simp) rfl) rfl _ rfl _ rfl
   have xx := Ex.trans BX.out hJ.st
   have hcv := conv_id (g := g) (off := 0) HXO.out (fun j u hu => by rw [Nat.zero_add, (A0.out.ext xx).2.cell]; simpa using hu) (A0.out.ext xx).lt
   clear xx
   clear hsz hdep hout hlat
   go_simp
   exact hK _ _ (hJ.nx hls hT rfl rfl hJ.st nh)
  ·have kg := hJ.is hT (hdep ⟨2, .guard⟩ (by simp) rfl) rfl _ rfl _ rfl
   rw [if_pos (wanted_of rfl rfl rfl kg)]
   clear kg
   intro K hK
   have q0 := hout 0 ob
   exact wp_mw _ rfl q0 (hK _ _ (hJ.nx hls hT rfl rfl hJ.st nh))
  ·have kg := hJ.is hT (hdep ⟨2, .guard⟩ (by simp) rfl) rfl _ rfl _ rfl
   rw [if_pos (wanted_of rfl rfl rfl kg)]
   clear kg
   intro K hK
   have q7 := hout 7 ob
   exact wp_mw _ rfl q7 (hK _ _ (hJ.nx hls hT rfl rfl hJ.st nh))
  ·have kg := hJ.is hT (hdep ⟨2, .guard⟩ (by simp) rfl) rfl _ rfl _ rfl
   rw [if_pos (wanted_of rfl rfl rfl kg)]
   clear kg
   intro K hK
   have q20 := hJ.iq hT (hdep ⟨6, .data⟩ (by simp) rfl) rfl _ rfl _ rfl
   have q21 := hJ.iq hT (hdep ⟨7, .data⟩ (by simp) rfl) rfl _ rfl _ rfl
   clear hsz hdep hout hlat
   go_simp
   exact hK _ _ (hJ.nx hls hT rfl rfl hJ.st nh)
  ·have kg := hJ.is hT (hdep ⟨2, .guard⟩ (by simp) rfl) rfl _ rfl _ rfl
   rw [if_pos (wanted_of rfl rfl rfl kg)]
   clear kg
   intro K hK
   have q22 := hJ.iq hT (hdep ⟨8, .data⟩ (by simp) rfl) rfl _ rfl _ rfl
   clear hsz hdep hout hlat
   go_simp
   exact hK _ _ (hJ.nx hls hT rfl rfl hJ.st nh)
  ·have kg := hJ.is hT (hdep ⟨2, .guard⟩ (by simp) rfl) rfl _ rfl _ rfl
   rw [if_pos (wanted_of rfl rfl rfl kg)]
   clear kg
   intro K hK
   have q23 := hJ.iq hT (hdep ⟨9, .data⟩ (by simp) rfl) rfl _ rfl _ rfl
   clear hsz hdep hout hlat
   go_simp
   exact hK _ _ (hJ.nx hls hT rfl rfl hJ.st nh)
  ·have kg := hJ.is hT (hdep ⟨2, .guard⟩ (by simp) rfl) rfl _ rfl _ rfl
   rw [if_pos (wanted_of rfl rfl rfl kg)]
   clear kg
   intro K hK
   have q24 := hJ.iq hT (hdep ⟨10, .data⟩ (by simp) rfl) rfl _ rfl _ rfl
   have hcv := conv_id YO.out (range_ex YR.out hJ.st HAB.out) (Nat.lt_of_lt_of_le HAB.out (Below.size hJ.st))
   clear hsz hdep hout hlat
   go_simp
   exact hK _ _ (hJ.nx hls hT rfl rfl hJ.st nh)
  ·have kg := hJ.is hT (hdep ⟨2, .guard⟩ (by simp) rfl) rfl _ rfl _ rfl
   rw [if_pos (wanted_of rfl rfl rfl kg)]
   clear kg
   intro K hK
   have q19 := hJ.iq hT (hdep ⟨5, .data⟩ (by simp) rfl) rfl _ rfl _ rfl
   have q25 := hJ.iq hT (hdep ⟨11, .data⟩ (by simp) rfl) rfl _ rfl _ rfl
   have hl := HLS.out
   clear hsz hdep hout hlat
   go_simp
   exact hK _ _ (hJ.nx hls hT rfl (by first | rfl | exact congrArg Value.bool hl | simp [hl]) hJ.st nh)
  have q16 := hJ.iq hT (hdep ⟨2, .data⟩ (by simp) rfl) rfl _ rfl _ rfl
  have q26 := hJ.iq hT (hdep ⟨12, .data⟩ (by simp) rfl) rfl _ rfl _ rfl
  clear hsz hdep hout hlat
  go_simp
  exact hK _ _ (hJ.nx hls hT rfl rfl hJ.st nh)
 intro listed f w3 hall hJ
 have f13 := hJ.fa hT (hall 13 (by simp)) rfl
 have hst := hJ.st
 simp only [putAll, Act.put, List.setIfInBounds_toArray, List.set_cons_zero, List.set_cons_succ, Nat.zero_add, Nat.reduceAdd]
 have xx : Ex wr w3 := hst
 rw [f13]
 clear f13
 clear hJ hall hT
 clear hst hS0
 replace YR := Hi (range_ex YR.out xx HAB.out)
 replace HAB := Hi (Nat.lt_of_lt_of_le HAB.out (Below.size xx))
 have rw9 := Ex.row xx RW.out
 replace BX := Hi (Ex.trans BX.out xx)
 replace RW := Hi rw9
 clear xx rw9
 have HP0 := Hi (HF.out.1 rfl)
 cases c
 ·have hlt9 : idn y.id < idn x.id := by have := of_decide_eq_false HC.out.symm; omega
  have HLY := Hi hlt9
  have HNE : Hid (¬ y.id = x.id) := Hi (fun e => by rw [e] at hlt9; omega)
  clear hlt9
  go_wp2_with (first | ((with_reducible refine so4 [36, 1000+36, 32, 1000+32, 4000+36] ?_ ?_); (focus rfl)) | (with_reducible refine stop_bs (t := 37) ?_) | (with_reducible refine stop_app ?_))
  have hS0 : ∀ (listed : Array Bool) (f : Nat → Value), (∀ i, listed.getD i false = false) → Ex w3 w3.drew := fun _ _ _ => (Below.refl w3.heap.size w3).drew
  obtain ⟨T, hT⟩ : ∃ T : List (Value → Prop), T = [(fun zz => zz = .slice (some ⟨ab, o, none⟩) n cap), (fun zz => zz = .int .i64 (k : Int)), (fun zz => zz = .pointer (some ⟨ab, o + k * 42, none⟩)), (fun zz => zz = .pointer (some ⟨ab, o + k * 42, none⟩)), (fun zz => zz = digV y.id), (fun zz => zz = .pointer (some ⟨g, 0, none⟩)), (fun zz => zz = digV x.id), (fun zz => zz = .bool (!decide (y.id = x.id)))] := ⟨_, rfl⟩
  refine wp_region_gen (JS T ([] : List (Nat × Nat)) (fun _ _ wz => Ex w3 wz)) (by kernel_rfl) (by kernel_rfl) (by kernel_rfl) (fitB_spec (by kernel_rfl)) (fun listed f h => JS.start listed f h (hS0 listed f h)) ?_ ?_
  ·intro i o ho
   have hi : i < 8 := (Array.getElem?_eq_some_iff.1 ho).1
   have hi' : i = 0 ∨ i = 1 ∨ i = 2 ∨ i = 3 ∨ i = 4 ∨ i = 5 ∨ i = 6 ∨ i = 7 := by omega
   clear hi
   rcases hi' with rfl | rfl | rfl | rfl | rfl | rfl | rfl | rfl
   all_goals (simp only [List.getElem?_toArray, List.getElem?_cons_zero, List.getElem?_cons_succ, Option.some.injEq] at ho; subst ho; intro listed f a w6 hJ hsz hls hun hdep hout hlat; first | (rw [if_pos (by rfl)]; intro K hK) | skip)
   ·have q0 := hout 0 ob
    exact wp_mw _ rfl q0 (hK _ _ (hJ.nx hls hT rfl rfl hJ.st nh))
   ·have q7 := hout 7 ob
    exact wp_mw _ rfl q7 (hK _ _ (hJ.nx hls hT rfl rfl hJ.st nh))
   ·have q32 := hJ.iq hT (hdep ⟨0, .data⟩ (by simp) rfl) rfl _ rfl _ rfl
    have q33 := hJ.iq hT (hdep ⟨1, .data⟩ (by simp) rfl) rfl _ rfl _ rfl
    clear hsz hdep hout hlat
    go_simp
    exact hK _ _ (hJ.nx hls hT rfl rfl hJ.st nh)
   ·have q34 := hJ.iq hT (hdep ⟨2, .data⟩ (by simp) rfl) rfl _ rfl _ rfl
    clear hsz hdep hout hlat
    go_simp
    exact hK _ _ (hJ.nx hls hT rfl rfl hJ.st nh)
   ·have q35 := hJ.is hT (hdep ⟨3, .data⟩ (by simp) rfl) rfl _ rfl _ rfl
    exact ld_vid9 _ ab (o + k * 42) y YO.out rfl q35 (range_ex YR.out hJ.st HAB.out) (hK _ _ (hJ.nx hls hT rfl rfl hJ.st nh))
   ·have q3 := hout 3 ob
    rw [gd9] at q3
    clear hsz hdep hout hlat
    go_simp
    exact hK _ _ (hJ.nx hls hT rfl rfl hJ.st nh)
   ·have q37 := hJ.is hT (hdep ⟨5, .data⟩ (by simp) rfl) rfl _ rfl _ rfl
    exact ld_vid _ g x rfl q37 (A0.out.ext (Ex.trans BX.out hJ.st)) (hK _ _ (hJ.nx hls hT rfl rfl hJ.st nh))
   have q36 := hJ.is hT (hdep ⟨4, .data⟩ (by simp) rfl) rfl _ rfl _ rfl
   have q38 := hJ.is hT (hdep ⟨6, .data⟩ (by simp) rfl) rfl _ rfl _ rfl
   exact wp_neq_id _ _ _ rfl y.id x.id YO.out.idN HXO.out.idN q36 q38 (hK _ _ (hJ.nx hls hT rfl rfl hJ.st nh))
  intro listed f w6 hall hJ
  have f7 := hJ.fa hT (hall 7 (by simp)) rfl
  have hst := hJ.st
  simp only [putAll, Act.put, List.setIfInBounds_toArray, List.set_cons_zero, List.set_cons_succ, Nat.zero_add, Nat.reduceAdd]
  have xx : Ex w3 w6 := hst
  rw [f7]
  clear f7
  clear hJ hall hT
  clear hst hS0
  replace YR := Hi (range_ex YR.out xx HAB.out)
  replace HAB := Hi (Nat.lt_of_lt_of_le HAB.out (Below.size xx))
  have rw9 := Ex.row xx RW.out
  replace BX := Hi (Ex.trans BX.out xx)
  replace RW := Hi rw9
  clear xx rw9
  rw [decide_eq_false HNE.out]
  rw [show (!false) = true from rfl]
  go_wp2_with (first | ((with_reducible refine so4 [36, 1000+36, 32, 1000+32, 4000+36] ?_ ?_); (focus rfl)) | (with_reducible refine stop_bs (t := 37) ?_) | (with_reducible refine stop_app ?_))
  refine at9 (by go_simp) fun K0 hK => ld_vr _ ab (o + k * 42) y YO.out rfl rfl YR.out (hK _ _ ?_)
  clear hK
  go_wp2_with (first | ((with_reducible refine so4 [36, 1000+36, 32, 1000+32, 4000+36] ?_ ?_); (focus rfl)) | (with_reducible refine stop_bs (t := 37) ?_) | (with_reducible refine stop_app ?_))
  replace HLEN : Hid ((pacc x xs k false).length ≤ 30) := Hi (by have := HLEN.out; omega)
  refine at9 (by go_simp) fun K0 hK => wp_bsv _ y YO.out rfl rfl (hK _ _ ?_)
  clear hK
  have xa := Ex.alloc w6 (.cells y.C.toArray 36)
  have NB := Hi (Bk.new (g := w6.heap.size) (w := w6) rfl 36 y.C.toArray)
  replace BX := Hi (Ex.trans BX.out xa)
  have rw9 := xa.row RW.out
  generalize hw4 : w6.alloc (.cells y.C.toArray 36) = w4 at *
  obtain ⟨g2, hg⟩ : ∃ g, g = w6.heap.size := ⟨_, rfl⟩
  rw [← hg] at NB ⊢
  replace RW := Hi rw9
  clear hw4 hg xa rw9
  have MR := Hi (Many.rd (n := 1) (sz := 42) ⟨g2, rfl, NB.out⟩ (Vt.len YO.out))
  go_wp2_with (first | ((with_reducible refine so4 [36, 1000+36, 32, 1000+32, 4000+36] ?_ ?_); (focus rfl)) | (with_reducible refine stop_bs (t := 37) ?_) | (with_reducible refine stop_app ?_))
  obtain ⟨adx, ex, nx, rx⟩ := MR.out
  cases ex
  have RX := Hi rx
  clear rx nx MR
  refine at9 (by go_simp) fun K0 hK => wp_rd _ _ 37 36 zeroVt.V 42 96 rfl Try.underlying37 Try.infoVt rfl (by decide) w1.heap.size (pacc x xs k false).length _ _ rfl RW.out BX.out.sz' _ 1 1 _ rfl RX.out (Nat.le_refl _) (fun h => by cases h) (Vt.C_one y) (by have := HLEN.out; omega) (by have := HLEN.out; omega) (fun v5 w5 r1 r2 => hK _ _ ?_)
  clear hK
  replace BX := Hi (show Ex w1 w5 from Below.trans (show Below w1.heap.size w1 _ from BX.out) r2.below)
  replace RW := Hi (RowOf.app r1)
  clear r1 r2 NB RX
  go_wp2_with (first | ((with_reducible refine so4 [36, 1000+36, 32, 1000+32, 4000+36] ?_ ?_); (focus rfl)) | (with_reducible refine stop_bs (t := 37) ?_) | (with_reducible refine stop_app ?_))
  have H1 : Hid (Flag x xs (k + 1) false) := Hi (show Flag x xs (k + 1) false from And.intro (fun _ q hq => by
   by_cases e : q = k
   ·rw [e, HYF.out]; exact HLY.out
   ·exact HP0.out q (by omega)) (fun h => by cases h))
  (first | (refine ⟨?_, ?measure⟩; (repeat apply Exists.intro); refine ⟨?rel, rfl⟩) | refine ⟨?rel, ?measure⟩)
  case rel => exact ⟨k + 1, false, by omega, by go_num, rfl, H1, Hi (by rw [pacc_lt HYK.out HLY.out]; exact RW.out), BX⟩
  case measure => simp [intOf]; omega
 have hle : idn x.id ≤ idn y.id := of_decide_eq_true HC.out.symm
 have HLY := Hi hle
 clear hle
 go_wp2_with (first | ((with_reducible refine so4 [36, 1000+36, 32, 1000+32, 4000+36] ?_ ?_); (focus rfl)) | (with_reducible refine stop_bs (t := 37) ?_) | (with_reducible refine stop_app ?_))
 refine at9 (by go_simp) fun K0 hK => ld_v _ g x rfl rfl (A0.out.ext BX.out) (hK _ _ ?_)
 clear hK
 go_wp2_with (first | ((with_reducible refine so4 [36, 1000+36, 32, 1000+32, 4000+36] ?_ ?_); (focus rfl)) | (with_reducible refine stop_bs (t := 37) ?_) | (with_reducible refine stop_app ?_))
 replace HLEN : Hid ((pacc x xs k false).length ≤ 20) := Hi (by have := HLEN.out; omega)
 refine at9 (by go_simp) fun K0 hK => wp_bsv _ x HXO.out rfl rfl (hK _ _ ?_)
 clear hK
 have xa := Ex.alloc w3 (.cells x.C.toArray 36)
 have NB := Hi (Bk.new (g := w3.heap.size) (w := w3) rfl 36 x.C.toArray)
 replace BX := Hi (Ex.trans BX.out xa)
 have rw9 := xa.row RW.out
 generalize hw4 : w3.alloc (.cells x.C.toArray 36) = w4 at *
 obtain ⟨g2, hg⟩ : ∃ g, g = w3.heap.size := ⟨_, rfl⟩
 rw [← hg] at NB ⊢
 replace RW := Hi rw9
 clear hw4 hg xa rw9
 have MR := Hi (Many.rd (n := 1) (sz := 42) ⟨g2, rfl, NB.out⟩ (Vt.len HXO.out))
 go_wp2_with (first | ((with_reducible refine so4 [36, 1000+36, 32, 1000+32, 4000+36] ?_ ?_); (focus rfl)) | (with_reducible refine stop_bs (t := 37) ?_) | (with_reducible refine stop_app ?_))
 obtain ⟨adx, ex, nx, rx⟩ := MR.out
 cases ex
 have RX := Hi rx
 clear rx nx MR
 refine at9 (by go_simp) fun K0 hK => wp_rd _ _ 37 36 zeroVt.V 42 96 rfl Try.underlying37 Try.infoVt rfl (by decide) w1.heap.size (pacc x xs k false).length _ _ rfl RW.out BX.out.sz' _ 1 1 _ rfl RX.out (Nat.le_refl _) (fun h => by cases h) (Vt.C_one x) (by have := HLEN.out; omega) (by have := HLEN.out; omega) (fun v5 w5 r1 r2 => hK _ _ ?_)
 clear hK
 replace BX := Hi (show Ex w1 w5 from Below.trans (show Below w1.heap.size w1 _ from BX.out) r2.below)
 replace RW := Hi (RowOf.app r1)
 clear r1 r2 NB RX
 replace YR := Hi (show w5.rangeAt ab (o + k * 42) y.C from fun j u hu => (HIN.out.ext BX.out).read (by rw [← HN.out]; omega) |>.elim fun a9 h9 => h9.elim fun o9 h9 => by cases h9.1; exact h9.2.2 k y HYK.out j u hu)
 skip
 obtain ⟨ab9, o9, e9, hab9, hr9⟩ := (HIN.out.ext BX.out).read (by rw [← HN.out]; omega)
 cases e9
 replace YR := Hi (hr9 k y HYK.out)
 replace HAB := Hi hab9
 clear hab9 hr9
 go_wp2_with (first | ((with_reducible refine so4 [36, 1000+36, 32, 1000+32, 4000+36] ?_ ?_); (focus rfl)) | (with_reducible refine stop_bs (t := 37) ?_) | (with_reducible refine stop_app ?_))
 have H1 : Hid (Flag x xs (k + 1) true) := Hi (show Flag x xs (k + 1) true from And.intro (fun h => by cases h) (fun _ => ⟨k, Nat.lt_succ_self k, by rw [HYF.out]; exact HLY.out⟩))
 by_cases hid : y.id = x.id
 ·have HID := Hi hid
  clear hid
  have hS0 : ∀ (listed : Array Bool) (f : Nat → Value), (∀ i, listed.getD i false = false) → Ex w5 w5.drew := fun _ _ _ => (Below.refl w5.heap.size w5).drew
  obtain ⟨T, hT⟩ : ∃ T : List (Value → Prop), T = [(fun zz => zz = .slice (some ⟨ab, o, none⟩) n cap), (fun zz => zz = .int .i64 (k : Int)), (fun zz => zz = .pointer (some ⟨ab, o + k * 42, none⟩)), (fun zz => zz = .pointer (some ⟨ab, o + k * 42, none⟩)), (fun zz => zz = digV y.id), (fun zz => zz = .pointer (some ⟨g, 0, none⟩)), (fun zz => zz = digV x.id), (fun zz => zz = .bool (!decide (y.id = x.id)))] := ⟨_, rfl⟩
  refine wp_region_gen (JS T ([] : List (Nat × Nat)) (fun _ _ wz => Ex w5 wz)) (by kernel_rfl) (by kernel_rfl) (by kernel_rfl) (fitB_spec (by kernel_rfl)) (fun listed f h => JS.start listed f h (hS0 listed f h)) ?_ ?_
  ·intro i o ho
   have hi : i < 8 := (Array.getElem?_eq_some_iff.1 ho).1
   have hi' : i = 0 ∨ i = 1 ∨ i = 2 ∨ i = 3 ∨ i = 4 ∨ i = 5 ∨ i = 6 ∨ i = 7 := by omega
   clear hi
   rcases hi' with rfl | rfl | rfl | rfl | rfl | rfl | rfl | rfl
   all_goals (simp only [List.getElem?_toArray, List.getElem?_cons_zero, List.getElem?_cons_succ, Option.some.injEq] at ho; subst ho; intro listed f a w6 hJ hsz hls hun hdep hout hlat; first | (rw [if_pos (by rfl)]; intro K hK) | skip)
   ·have q0 := hout 0 ob
    exact wp_mw _ rfl q0 (hK _ _ (hJ.nx hls hT rfl rfl hJ.st nh))
   ·have q7 := hout 7 ob
    exact wp_mw _ rfl q7 (hK _ _ (hJ.nx hls hT rfl rfl hJ.st nh))
   ·have q32 := hJ.iq hT (hdep ⟨0, .data⟩ (by simp) rfl) rfl _ rfl _ rfl
    have q33 := hJ.iq hT (hdep ⟨1, .data⟩ (by simp) rfl) rfl _ rfl _ rfl
    clear hsz hdep hout hlat
    go_simp
    exact hK _ _ (hJ.nx hls hT rfl rfl hJ.st nh)
   ·have q34 := hJ.iq hT (hdep ⟨2, .data⟩ (by simp) rfl) rfl _ rfl _ rfl
    clear hsz hdep hout hlat
    go_simp
    exact hK _ _ (hJ.nx hls hT rfl rfl hJ.st nh)
   ·have q35 := hJ.is hT (hdep ⟨3, .data⟩ (by simp) rfl) rfl _ rfl _ rfl
    exact ld_vid9 _ ab (o + k * 42) y YO.out rfl q35 (range_ex YR.out hJ.st HAB.out) (hK _ _ (hJ.nx hls hT rfl rfl hJ.st nh))
   ·have q3 := hout 3 ob
    rw [gd9] at q3
    clear hsz hdep hout hlat
    go_simp
    exact hK _ _ (hJ.nx hls hT rfl rfl hJ.st nh)
   ·have q37 := hJ.is hT (hdep ⟨5, .data⟩ (by simp) rfl) rfl _ rfl _ rfl
    exact ld_vid _ g x rfl q37 (A0.out.ext (Ex.trans BX.out hJ.st)) (hK _ _ (hJ.nx hls hT rfl rfl hJ.st nh))
   have q36 := hJ.is hT (hdep ⟨4, .data⟩ (by simp) rfl) rfl _ rfl _ rfl
   have q38 := hJ.is hT (hdep ⟨6, .data⟩ (by simp) rfl) rfl _ rfl _ rfl
   exact wp_neq_id _ _ _ rfl y.id x.id YO.out.idN HXO.out.idN q36 q38 (hK _ _ (hJ.nx hls hT rfl rfl hJ.st nh))
  intro listed f w6 hall hJ
  have f7 := hJ.fa hT (hall 7 (by simp)) rfl
  have hst := hJ.st
  simp only [putAll, Act.put, List.setIfInBounds_toArray, List.set_cons_zero, List.set_cons_succ, Nat.zero_add, Nat.reduceAdd]
  have xx : Ex w5 w6 := hst
  rw [f7]
  clear f7
  clear hJ hall hT
  clear hst hS0
  replace YR := Hi (range_ex YR.out xx HAB.out)
  replace HAB := Hi (Nat.lt_of_lt_of_le HAB.out (Below.size xx))
  have rw9 := Ex.row xx RW.out
  replace BX := Hi (Ex.trans BX.out xx)
  replace RW := Hi rw9
  clear xx rw9
  rw [decide_eq_true HID.out]
  rw [show (!true) = false from rfl]
  go_wp2_with (first | ((with_reducible refine so4 [36, 1000+36, 32, 1000+32, 4000+36] ?_ ?_); (focus rfl)) | (with_reducible refine stop_bs (t := 37) ?_) | (with_reducible refine stop_app ?_))
  (first | (refine ⟨?_, ?measure⟩; (repeat apply Exists.intro); refine ⟨?rel, rfl⟩) | refine ⟨?rel, ?measure⟩)
  case rel => exact ⟨k + 1, true, by omega, by go_num, rfl, H1, Hi (by rw [pacc_eq HYK.out (by rw [HID.out]) HP0.out]; exact RW.out), BX⟩
  case measure => simp [intOf]; omega
 have HID := Hi hid
 have HGT : Hid (idn x.id < idn y.id) := Hi (by
  rcases Nat.eq_or_lt_of_le HLY.out with h | h
  ·exact absurd (idn_inj YO.out.idN HXO.out.idN h.symm) hid
  ·exact h)
 clear hid
 have hS0 : ∀ (listed : Array Bool) (f : Nat → Value), (∀ i, listed.getD i false = false) → Ex w5 w5.drew := fun _ _ _ => (Below.refl w5.heap.size w5).drew
 obtain ⟨T, hT⟩ : ∃ T : List (Value → Prop), T = [(fun zz => zz = .slice (some ⟨ab, o, none⟩) n cap), (fun zz => zz = .int .i64 (k : Int)), (fun zz => zz = .pointer (some ⟨ab, o + k * 42, none⟩)), (fun zz => zz = .pointer (some ⟨ab, o + k * 42, none⟩)), (fun zz => zz = digV y.id), (fun zz => zz = .pointer (some ⟨g, 0, none⟩)), (fun zz => zz = digV x.id), (fun zz => zz = .bool (!decide (y.id = x.id)))] := ⟨_, rfl⟩
 refine wp_region_gen (JS T ([] : List (Nat × Nat)) (fun _ _ wz => Ex w5 wz)) (by kernel_rfl) (by kernel_rfl) (by kernel_rfl) (fitB_spec (by kernel_rfl)) (fun listed f h => JS.start listed f h (hS0 listed f h)) ?_ ?_
 ·intro i o ho
  have hi : i < 8 := (Array.getElem?_eq_some_iff.1 ho).1
  have hi' : i = 0 ∨ i = 1 ∨ i = 2 ∨ i = 3 ∨ i = 4 ∨ i = 5 ∨ i = 6 ∨ i = 7 := by omega
  clear hi
  rcases hi' with rfl | rfl | rfl | rfl | rfl | rfl | rfl | rfl
  all_goals (simp only [List.getElem?_toArray, List.getElem?_cons_zero, List.getElem?_cons_succ, Option.some.injEq] at ho; subst ho; intro listed f a w6 hJ hsz hls hun hdep hout hlat; first | (rw [if_pos (by rfl)]; intro K hK) | skip)
  ·have q0 := hout 0 ob
   exact wp_mw _ rfl q0 (hK _ _ (hJ.nx hls hT rfl rfl hJ.st nh))
  ·have q7 := hout 7 ob
   exact wp_mw _ rfl q7 (hK _ _ (hJ.nx hls hT rfl rfl hJ.st nh))
  ·have q32 := hJ.iq hT (hdep ⟨0, .data⟩ (by simp) rfl) rfl _ rfl _ rfl
   have q33 := hJ.iq hT (hdep ⟨1, .data⟩ (by simp) rfl) rfl _ rfl _ rfl
   clear hsz hdep hout hlat
   go_simp
   exact hK _ _ (hJ.nx hls hT rfl rfl hJ.st nh)
  ·have q34 := hJ.iq hT (hdep ⟨2, .data⟩ (by simp) rfl) rfl _ rfl _ rfl
   clear hsz hdep hout hlat
   go_simp
   exact hK _ _ (hJ.nx hls hT rfl rfl hJ.st nh)
  ·have q35 := hJ.is hT (hdep ⟨3, .data⟩ (by simp) rfl) rfl _ rfl _ rfl
   exact ld_vid9 _ ab (o + k * 42) y YO.out rfl q35 (range_ex YR.out hJ.st HAB.out) (hK _ _ (hJ.nx hls hT rfl rfl hJ.st nh))
  ·have q3 := hout 3 ob
   rw [gd9] at q3
   clear hsz hdep hout hlat
   go_simp
   exact hK _ _ (hJ.nx hls hT rfl rfl hJ.st nh)
  ·have q37 := hJ.is hT (hdep ⟨5, .data⟩ (by simp) rfl) rfl _ rfl _ rfl
   exact ld_vid _ g x rfl q37 (A0.out.ext (Ex.trans BX.out hJ.st)) (hK _ _ (hJ.nx hls hT rfl rfl hJ.st nh))
  have q36 := hJ.is hT (hdep ⟨4, .data⟩ (by simp) rfl) rfl _ rfl _ rfl
  have q38 := hJ.is hT (hdep ⟨6, .data⟩ (by simp) rfl) rfl _ rfl _ rfl
  exact wp_neq_id _ _ _ rfl y.id x.id YO.out.idN HXO.out.idN q36 q38 (hK _ _ (hJ.nx hls hT rfl rfl hJ.st nh))
 intro listed f w6 hall hJ
 have f7 := hJ.fa hT (hall 7 (by simp)) rfl
 have hst := hJ.st
 simp only [putAll, Act.put, List.setIfInBounds_toArray, List.set_cons_zero, List.set_cons_succ, Nat.zero_add, Nat.reduceAdd]
 have xx : Ex w5 w6 := hst
 rw [f7]
 clear f7
 clear hJ hall hT
 clear hst hS0
 replace YR := Hi (range_ex YR.out xx HAB.out)
 replace HAB := Hi (Nat.lt_of_lt_of_le HAB.out (Below.size xx))
 have rw9 := Ex.row xx RW.out
 replace BX := Hi (Ex.trans BX.out xx)
 replace RW := Hi rw9
 clear xx rw9
 rw [decide_eq_false HID.out]
 rw [show (!false) = true from rfl]
 go_wp2_with (first | ((with_reducible refine so4 [36, 1000+36, 32, 1000+32, 4000+36] ?_ ?_); (focus rfl)) | (with_reducible refine stop_bs (t := 37) ?_) | (with_reducible refine stop_app ?_))
 refine at9 (by go_simp) fun K0 hK => ld_vr _ ab (o + k * 42) y YO.out rfl rfl YR.out (hK _ _ ?_)
 clear hK
 go_wp2_with (first | ((with_reducible refine so4 [36, 1000+36, 32, 1000+32, 4000+36] ?_ ?_); (focus rfl)) | (with_reducible refine stop_bs (t := 37) ?_) | (with_reducible refine stop_app ?_))
 replace HLEN : Hid ((pacc x xs k false ++ [x]).length ≤ 30) := Hi (by rw [List.length_append, List.length_singleton]; have := HLEN.out; omega)
 refine at9 (by go_simp) fun K0 hK => wp_bsv _ y YO.out rfl rfl (hK _ _ ?_)
 clear hK
 have xa := Ex.alloc w6 (.cells y.C.toArray 36)
 have NB := Hi (Bk.new (g := w6.heap.size) (w := w6) rfl 36 y.C.toArray)
 replace BX := Hi (Ex.trans BX.out xa)
 have rw9 := xa.row RW.out
 generalize hw4 : w6.alloc (.cells y.C.toArray 36) = w4 at *
 obtain ⟨g2, hg⟩ : ∃ g, g = w6.heap.size := ⟨_, rfl⟩
 rw [← hg] at NB ⊢
 replace RW := Hi rw9
 clear hw4 hg xa rw9
 have MR := Hi (Many.rd (n := 1) (sz := 42) ⟨g2, rfl, NB.out⟩ (Vt.len YO.out))
 go_wp2_with (first | ((with_reducible refine so4 [36, 1000+36, 32, 1000+32, 4000+36] ?_ ?_); (focus rfl)) | (with_reducible refine stop_bs (t := 37) ?_) | (with_reducible refine stop_app ?_))
 obtain ⟨adx, ex, nx, rx⟩ := MR.out
 cases ex
 have RX := Hi rx
 clear rx nx MR
 refine at9 (by go_simp) fun K0 hK => wp_rd _ _ 37 36 zeroVt.V 42 96 rfl Try.underlying37 Try.infoVt rfl (by decide) w1.heap.size (pacc x xs k false ++ [x]).length _ _ rfl RW.out BX.out.sz' _ 1 1 _ rfl RX.out (Nat.le_refl _) (fun h => by cases h) (Vt.C_one y) (by have := HLEN.out; omega) (by have := HLEN.out; omega) (fun v5 w5 r1 r2 => hK _ _ ?_)
 clear hK
 replace BX := Hi (show Ex w1 w5 from Below.trans (show Below w1.heap.size w1 _ from BX.out) r2.below)
 replace RW := Hi (RowOf.app r1)
 clear r1 r2 NB RX
 go_wp2_with (first | ((with_reducible refine so4 [36, 1000+36, 32, 1000+32, 4000+36] ?_ ?_); (focus rfl)) | (with_reducible refine stop_bs (t := 37) ?_) | (with_reducible refine stop_app ?_))
 (first | (refine ⟨?_, ?measure⟩; (repeat apply Exists.intro); refine ⟨?rel, rfl⟩) | refine ⟨?rel, ?measure⟩)
 case rel => exact ⟨k + 1, true, by omega, by go_num, rfl, H1, Hi (by rw [pacc_gt HYK.out HGT.out HP0.out]; exact RW.out), BX⟩
 case measure => simp [intOf]; omega
end Go.Proofs.Ytmjfnpmnhehnkaa
