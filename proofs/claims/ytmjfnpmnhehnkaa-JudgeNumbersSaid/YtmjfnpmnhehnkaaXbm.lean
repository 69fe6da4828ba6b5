/- Jr -/
import Derived.Test.YtmjfnpmnhehnkaaXbl
namespace Go.Proofs.Ytmjfnpmnhehnkaa
open Go.RowKit
theorem nextp {xs : List Vt} {j : Nat} {y z : Vt} {e : Bool} (h : false = true ↔ ∃ (p : Nat) (z : Vt), p < j ∧ xs[p]? = some z ∧ y.ct = z.ct) (hz : xs[j]? = some z) (he : e = decide (y.ct = z.ct)) : e = true ↔ ∃ (p : Nat) (z : Vt), p < j + 1 ∧ xs[p]? = some z ∧ y.ct = z.ct := by
 rw [he, decide_eq_true_iff]
 constructor
 ·exact fun h1 => ⟨j, z, by omega, hz, h1⟩
 rintro ⟨p, z2, h1, h2, h3⟩
 rcases Nat.lt_or_ge p j with h4 | h4
 ·exact absurd (h.2 ⟨p, z2, h4, h2, h3⟩) (by decide)
 obtain rfl : p = j := by omega
 rw [hz] at h2; cases h2; exact h3
set_option maxHeartbeats 8000000 in
set_option maxRecDepth 100000 in
theorem same25 (ad : Option Addr) (cap : Nat) (l : List Dt) (w : World) (hL : l.length ≤ 900) (hin : Dp.In ad cap l w) : Calls Try.prog 43 #[.slice ad l.length cap] w fun e w' => e = .returned (.bool true) ∧ Ex w w' := by
 obtain ⟨n, hn⟩ : ∃ n, n = l.length := ⟨_, rfl⟩
 rw [show (Value.slice ad l.length cap) = .slice ad n cap by rw [hn]]
 rw [← hn] at hL
 have HN := Hi hn
 have HIN := Hi hin
 clear hn hin
 go_enter Try.func43, Try.ntmps43
 go_wp2_with (first | ((with_reducible refine so0 ?_ ?_); (focus rfl)) | (with_reducible refine stop_app ?_) | (with_reducible refine stop_bs ?_))
 refine at9 (by go_simp) fun K0 hK => wp_build _ _ rfl _ built_pl (hK _ _ ?_)
 clear hK
 go_wp2_with (first | ((with_reducible refine so0 ?_ ?_); (focus rfl)) | (with_reducible refine stop_app ?_) | (with_reducible refine stop_bs ?_))
 have P0 : Hid (K.PB w (w.alloc (.cells #[.slice none 0 0] 147)) w.heap.size (.slice none 0 0) []) := Hi (K.PB.start (Nat.le_refl _) (Below.size (Ex.alloc w _)) (Bk.new rfl _ _))
 have X0 : Hid (Ex w (w.alloc (.cells #[.slice none 0 0] 147))) := Hi (Ex.alloc _ _)
 generalize hw1 : (w.alloc (.cells #[.slice none 0 0] 147)) = w1 at *
 obtain ⟨P, hP⟩ : ∃ P, P = w.heap.size := ⟨_, rfl⟩
 rw [← hP] at P0 ⊢
 clear hw1 hP
 go_loopw [4, 5, 6] (fun t4 rsv t6 wr => ∃ (k : Nat) (an9 : Int) (rv : Value) (xs : List Vt), k ≤ n ∧ t6 = .int .i64 k ∧ t4 = .int .i64 an9 ∧ -1 ≤ an9 ∧ an9 ≤ (n : Int) ∧ Hid (K.PB w wr P rv xs) ∧ Hid (∀ x ∈ xs, x.ct.right = true) ∧ xs.length ≤ k ∧ Hid (∃ X Y, ChainK l X Y k ∧ X k = xs ∧ FirstK l Y k an9) ∧ Hid (wr.ownsRow w.heap.size 83 10 rsv k (((l.take k).map Dt.r).flatMap Rt.C)) ∧ Hid (Ex w wr)) (fun _ _ t6 _ => n - (intOf t6).toNat)
 case atStart => exact ⟨0, -1, .slice none 0 0, [], by omega, rfl, rfl, by omega, by omega, P0, Hi (fun x hx => by simp at hx), Nat.le_refl _, Hi ⟨fun _ => [], fun _ => errRc, ⟨rfl, fun i x hi => absurd hi (Nat.not_lt_zero i)⟩, rfl, Or.inl ⟨rfl, Good.zero l _⟩⟩, Hi (World.ownsRow_nil _ _ _ _), X0⟩
 clear P0 X0
 obtain ⟨k, an9, rv, xs, hk, rfl, rfl, a0, a1, HP, HR, hxl, HCH, HRS, BX⟩ := hrel
 by_cases hlt : k < n
 ·obtain ⟨ab, ofs, rfl, hab, hcc⟩ := HIN.out.read (by rw [← HN.out]; omega)
  obtain ⟨x, hx⟩ : ∃ x, l[k]? = some x := ⟨_, List.getElem?_eq_getElem (by rw [← HN.out]; exact hlt)⟩
  have HX := Hi hx
  have HAB := Hi hab
  have XI := Hi (HIN.out.ins k x hx)
  have XRG : Hid (∀ wq, Ex w wq → wq.rangeAt ab (ofs + k * 68) x.C) := Hi (fun wq e j u hu => (Below.cell (p := ⟨ab, ofs + k * 68 + j, none⟩) e hab).trans (hcc k x hx j u hu))
  clear hcc hx hab
  have q0 : (0 : Int) ≤ (k : Int) := by omega
  have q1 : (k : Int) < (n : Int) := by omega
  go_wp2_with (first | ((with_reducible refine so0 ?_ ?_); (focus rfl)) | (with_reducible refine stop_app ?_) | (with_reducible refine stop_bs ?_))
  refine at9 (by go_simp) fun K0 hK => ld_dqr _ ab (ofs + k * 68) x XI.out.q.ok rfl rfl (XRG.out _ BX.out) (hK _ _ ?_)
  clear hK
  go_wp2_with (first | ((with_reducible refine so0 ?_ ?_); (focus rfl)) | (with_reducible refine stop_app ?_) | (with_reducible refine stop_bs ?_))
  refine (K.pdo_any w P rv xs x.q wr HP.out HR.out (by omega) (XI.out.q.ext BX.out) (Or.inl (XI.out.q.sec.keep BX.out))).mono ?_
  rintro e w2 ⟨y, rv2, xs2, rfl, yok, ypn, hpb, hst, hmd, _⟩
  have hkt : Kt [147] w.heap.size wr w2 := Kt.md hmd HP.out.lo HP.out.blk (List.mem_singleton.2 rfl)
  have YOK := Hi yok
  have YPN := Hi ypn
  have HP2 := Hi hpb
  have HR2 := Hi (pstep_right HR.out hst)
  have hl2 := hst.len9
  have HST := Hi hst
  have HRS2 := Hi (hkt.row HRS.out (by decide))
  have BX2 : Hid (Ex w w2) := Hi (Below.trans BX.out hkt.below)
  clear yok ypn hpb hst hmd hkt HP HR HRS BX
  go_wp2_with (first | ((with_reducible refine so0 ?_ ?_); (focus rfl)) | (with_reducible refine stop_app ?_) | (with_reducible refine stop_bs ?_))
  refine at9 (by go_simp) fun K0 hK => st_r _ _ w2.heap.size y rfl rfl rfl YOK.out (Bk.new rfl _ _) (by rfl) (fun w3 hd ho => hK _ _ ?_)
  clear hK
  have x3 : Ex w2 w3 := ho.below w2.heap.size (Nat.le_refl _) w2 (Ex.alloc w2 _)
  obtain ⟨g, hg⟩ : ∃ g, g = w2.heap.size := ⟨_, rfl⟩
  rw [← hg] at hd ⊢
  have HD := Hi hd
  have YI := Hi (RI.mk YOK.out (YPN.out.ext x3).1)
  replace HP2 := Hi (HP2.out.ext x3)
  replace HRS2 := Hi (x3.row HRS2.out)
  replace BX2 := Hi (Ex.trans BX2.out x3)
  clear hd ho hg x3 YPN
  obtain ⟨X, Y, hch, hX, hfk⟩ := HCH.out
  obtain ⟨X2, Y2, c1, c2, c3, c4⟩ := hch.next HX.out hX HST.out
  have HFK := Hi hfk
  have C1 := Hi c1
  have C2 := Hi c2
  have C3 := Hi c3
  have C4 := Hi c4
  clear hch hX hfk c1 c2 c3 c4 HCH HST
  go_wp2_with fail
  by_cases ha : an9 < 0
  rotate_left
  ·have ha0 : (0 : Int) ≤ an9 := by omega
   have hS0 : ∀ (listed : Array Bool) (f : Nat → Value), (∀ i, listed.getD i false = false) → Ex w3 w3.drew := fun _ _ _ => (Below.refl w3.heap.size w3).drew
   obtain ⟨T, hT⟩ : ∃ T : List (Value → Prop), T = [(fun zz => zz = .int .i64 an9), (fun zz => zz = .bool false), (fun zz => zz = .bool false), (fun zz => zz = undef), (fun zz => zz = undef), (fun zz => zz = undef), (fun zz => zz = undef), (fun zz => zz = undef), (fun zz => zz = undef), (fun zz => zz = undef), (fun zz => zz = undef), (fun zz => zz = .bool false)] := ⟨_, rfl⟩
   refine wp_region_gen (JS T ([] : List (Nat × Nat)) (fun _ _ wq => Ex w3 wq)) (by kernel_rfl) (by kernel_rfl) (by kernel_rfl) (fitB_spec (by kernel_rfl)) (fun listed f h => JS.start listed f h (hS0 listed f h)) ?_ ?_
   ·intro i o ho
    have hi : i < 12 := (Array.getElem?_eq_some_iff.1 ho).1
    have hi' : i = 0 ∨ i = 1 ∨ i = 2 ∨ i = 3 ∨ i = 4 ∨ i = 5 ∨ i = 6 ∨ i = 7 ∨ i = 8 ∨ i = 9 ∨ i = 10 ∨ i = 11 := by omega
    clear hi
    rcases hi' with rfl | rfl | rfl | rfl | rfl | rfl | rfl | rfl | rfl | rfl | rfl | rfl
    all_goals (simp only [List.getElem?_toArray, List.getElem?_cons_zero, List.getElem?_cons_succ, Option.some.injEq] at ho; subst ho; intro listed f a w4 hJ hsz hls hun hdep hout hlat; first | (rw [if_pos (by rfl)]; intro K hK) | skip)
    ·have q4 := hout 4 (outB_spec (by kernel_rfl))
     refine wp_mv _ rfl (hK _ _ ?_)
     rw [show a.eval (.tmp 4) = .int .i64 an9 from q4]
     exact hJ.nx hls hT rfl rfl hJ.st (no_head rfl)
    ·have q27 := hJ.iq hT (hdep ⟨0, .data⟩ (by simp) rfl) rfl _ rfl _ rfl
     clear hsz hdep hout hlat
     go_simp
     exact hK _ _ (hJ.nx hls hT rfl rfl hJ.st (no_head rfl))
    ·have q28 := hJ.is hT (hdep ⟨1, .data⟩ (by simp) rfl) rfl _ rfl _ rfl
     refine wp_mv _ rfl (hK _ _ ?_)
     rw [show a.eval (.tmp 28) = .bool false from q28]
     exact hJ.nx hls hT rfl rfl hJ.st (no_head rfl)
    ·have kg := hJ.is hT (hdep ⟨2, .guard⟩ (by simp) rfl) rfl _ rfl _ rfl
     rw [if_neg (not_wanted rfl rfl rfl kg (by decide))]
     exact hJ.nx hls hT rfl (by first | exact trivial | rfl) hJ.st (no_head rfl)
    ·have kg := hJ.is hT (hdep ⟨2, .guard⟩ (by simp) rfl) rfl _ rfl _ rfl
     rw [if_neg (not_wanted rfl rfl rfl kg (by decide))]
     exact hJ.nx hls hT rfl (by first | exact trivial | rfl) hJ.st (no_head rfl)
    ·have kg := hJ.is hT (hdep ⟨2, .guard⟩ (by simp) rfl) rfl _ rfl _ rfl
     rw [if_neg (not_wanted rfl rfl rfl kg (by decide))]
     exact hJ.nx hls hT rfl (by first | exact trivial | rfl) hJ.st (no_head rfl)
    ·have kg := hJ.is hT (hdep ⟨2, .guard⟩ (by simp) rfl) rfl _ rfl _ rfl
     rw [if_neg (not_wanted rfl rfl rfl kg (by decide))]
     exact hJ.nx hls hT rfl (by first | exact trivial | rfl) hJ.st (no_head rfl)
    ·have kg := hJ.is hT (hdep ⟨2, .guard⟩ (by simp) rfl) rfl _ rfl _ rfl
     rw [if_neg (not_wanted rfl rfl rfl kg (by decide))]
     exact hJ.nx hls hT rfl (by first | exact trivial | rfl) hJ.st (no_head rfl)
    ·have kg := hJ.is hT (hdep ⟨2, .guard⟩ (by simp) rfl) rfl _ rfl _ rfl
     rw [if_neg (not_wanted rfl rfl rfl kg (by decide))]
     exact hJ.nx hls hT rfl (by first | exact trivial | rfl) hJ.st (no_head rfl)
    ·have kg := hJ.is hT (hdep ⟨2, .guard⟩ (by simp) rfl) rfl _ rfl _ rfl
     rw [if_neg (not_wanted rfl rfl rfl kg (by decide))]
     exact hJ.nx hls hT rfl (by first | exact trivial | rfl) hJ.st (no_head rfl)
    ·have kg := hJ.is hT (hdep ⟨2, .guard⟩ (by simp) rfl) rfl _ rfl _ rfl
     rw [if_neg (not_wanted rfl rfl rfl kg (by decide))]
     exact hJ.nx hls hT rfl (by first | exact trivial | rfl) hJ.st (no_head rfl)
    have q29 := hJ.iq hT (hdep ⟨2, .data⟩ (by simp) rfl) rfl _ rfl _ rfl
    have q37 := hJ.iq hT (hdep ⟨10, .data⟩ (by simp) rfl) rfl _ rfl _ rfl
    clear hsz hdep hout hlat
    go_simp
    exact hK _ _ (hJ.nx hls hT rfl rfl hJ.st (no_head rfl))
   intro listed f w4 hall hJ
   have f11 : f 11 = .bool false := by
    have h := hJ.vals 11 (hall 11 (by simp))
    rw [hT] at h; exact h
   have hst := hJ.st
   simp only [putAll, Act.put, List.setIfInBounds_toArray, List.set_cons_zero, List.set_cons_succ, Nat.zero_add, Nat.reduceAdd]
   have x4 : Ex w3 w4 := hst
   replace HP2 := Hi (HP2.out.ext x4)
   replace HRS2 := Hi (x4.row HRS2.out)
   replace BX2 := Hi (Ex.trans BX2.out x4)
   clear x4 hst hS0
   rw [f11]
   clear f11
   clear hJ hall hT
   go_wp2_with (first | ((with_reducible refine so0 ?_ ?_); (focus rfl)) | (with_reducible refine stop_app ?_) | (with_reducible refine stop_bs ?_))
   refine at9 (by go_simp) fun K0 hK => ld_dpr _ ab (ofs + k * 68) x XI.out.q.ok XI.out.r.ok rfl rfl (XRG.out _ BX2.out) (hK _ _ ?_)
   clear hK
   go_wp2_with (first | ((with_reducible refine so0 ?_ ?_); (focus rfl)) | (with_reducible refine stop_app ?_) | (with_reducible refine stop_bs ?_))
   refine at9 (by go_simp) fun K0 hK => wp_bs1 98 83 zeroRt.V 10 72 _ x.r.C rfl Try.underlying98 Try.infoRt rfl (by decide) (by decide) (Rt.len XI.out.r.ok) rfl (hK _ _ ?_)
   clear hK
   have xa := Ex.alloc w4 (.cells x.r.C.toArray 83)
   have NB := Hi (Bk.new (g := w4.heap.size) (w := w4) rfl 83 x.r.C.toArray)
   replace HP2 := Hi (HP2.out.ext xa)
   replace HRS2 := Hi (xa.row HRS2.out)
   replace BX2 := Hi (Ex.trans BX2.out xa)
   generalize hw5 : w4.alloc (.cells x.r.C.toArray 83) = w5 at *
   obtain ⟨g2, hg⟩ : ∃ g, g = w4.heap.size := ⟨_, rfl⟩
   rw [← hg] at NB ⊢
   clear hw5 hg xa
   have MR := Hi (Many.rd (n := 1) (sz := 10) ⟨g2, rfl, NB.out⟩ (Rt.len XI.out.r.ok))
   go_wp2_with (first | ((with_reducible refine so0 ?_ ?_); (focus rfl)) | (with_reducible refine stop_app ?_) | (with_reducible refine stop_bs ?_))
   obtain ⟨adx, ex, nx, rx⟩ := MR.out
   cases ex
   have RX := Hi rx
   clear rx nx MR
   refine at9 (by go_simp) fun K0 hK => wp_rd _ _ 98 83 zeroRt.V 10 72 rfl Try.underlying98 Try.infoRt rfl (by decide) w.heap.size k _ _ rfl HRS2.out BX2.out.sz' _ 1 1 _ rfl RX.out (Nat.le_refl _) (fun h => by cases h) x.r.C_one (by omega) (by omega) (fun v5 w6 r1 r2 => hK _ _ ?_)
   clear hK
   replace BX2 := Hi (show Ex w w6 from Below.trans (show Below w.heap.size w _ from BX2.out) r2.below)
   have HP3 := Hi (HP2.out.kt r2 (by decide) (by decide) (by decide))
   have HRS3 : Hid (w6.ownsRow w.heap.size 83 10 v5 (k + 1) (((l.take (k + 1)).map Dt.r).flatMap Rt.C)) := Hi (by rw [List.take_add_one, HX.out, List.map_append, List.flatMap_append]; simpa using r1)
   clear r1 r2
   go_wp2_with fail
   go_roundw
   case rel => exact ⟨k + 1, an9, rv2, xs2, by omega, by go_num, rfl, by omega, by omega, HP3, HR2, by omega, Hi ⟨X2, Y2, C1.out, C2.out, HFK.out.keep ha0 C4.out⟩, HRS3, BX2⟩
   case measure => simp [intOf]; omega
  obtain rfl : an9 = -1 := by omega
  obtain ⟨b, hb⟩ : ∃ b, b = decide (y.ct = x.r.ct) := ⟨_, rfl⟩
  have HB := Hi hb
  clear hb
  have hS0 : ∀ (listed : Array Bool) (f : Nat → Value), (∀ i, listed.getD i false = false) → Ex w3 w3.drew := fun _ _ _ => (Below.refl w3.heap.size w3).drew
  obtain ⟨T, hT⟩ : ∃ T : List (Value → Prop), T = [(fun zz => zz = .int .i64 (-1)), (fun zz => zz = .bool true), (fun zz => zz = .bool true), (fun zz => zz = y.V), (fun zz => zz = .slice (some ⟨ab, ofs, none⟩) n cap), (fun zz => zz = .int .i64 (k : Int)), (fun zz => zz = .pointer (some ⟨ab, ofs + k * 68, none⟩)), (fun zz => zz = .pointer (some ⟨ab, ofs + k * 68 + 58, none⟩)), (fun zz => zz = x.r.V), (fun zz => zz = .bool b), (fun zz => zz = .bool (!b)), (fun zz => zz = .bool (!b))] := ⟨_, rfl⟩
  refine wp_region_gen (JS T ([] : List (Nat × Nat)) (fun _ _ wq => Ex w3 wq)) (by kernel_rfl) (by kernel_rfl) (by kernel_rfl) (fitB_spec (by kernel_rfl)) (fun listed f h => JS.start listed f h (hS0 listed f h)) ?_ ?_
  ·intro i o ho
   have hi : i < 12 := (Array.getElem?_eq_some_iff.1 ho).1
   have hi' : i = 0 ∨ i = 1 ∨ i = 2 ∨ i = 3 ∨ i = 4 ∨ i = 5 ∨ i = 6 ∨ i = 7 ∨ i = 8 ∨ i = 9 ∨ i = 10 ∨ i = 11 := by omega
   clear hi
   rcases hi' with rfl | rfl | rfl | rfl | rfl | rfl | rfl | rfl | rfl | rfl | rfl | rfl
   all_goals (simp only [List.getElem?_toArray, List.getElem?_cons_zero, List.getElem?_cons_succ, Option.some.injEq] at ho; subst ho; intro listed f a w4 hJ hsz hls hun hdep hout hlat; first | (rw [if_pos (by rfl)]; intro K hK) | skip)
   ·have q4 := hout 4 (outB_spec (by kernel_rfl))
    refine wp_mv _ rfl (hK _ _ ?_)
    rw [show a.eval (.tmp 4) = .int .i64 (-1) from q4]
    exact hJ.nx hls hT rfl rfl hJ.st (no_head rfl)
   ·have q27 := hJ.iq hT (hdep ⟨0, .data⟩ (by simp) rfl) rfl _ rfl _ rfl
    clear hsz hdep hout hlat
    go_simp
    exact hK _ _ (hJ.nx hls hT rfl rfl hJ.st (no_head rfl))
   ·have q28 := hJ.is hT (hdep ⟨1, .data⟩ (by simp) rfl) rfl _ rfl _ rfl
    refine wp_mv _ rfl (hK _ _ ?_)
    rw [show a.eval (.tmp 28) = .bool true from q28]
    exact hJ.nx hls hT rfl rfl hJ.st (no_head rfl)
   ·have kg := hJ.is hT (hdep ⟨2, .guard⟩ (by simp) rfl) rfl _ rfl _ rfl
    rw [if_pos (wanted_of rfl rfl rfl kg)]
    clear kg
    intro K hK
    have q7 := hout 7 (outB_spec (by kernel_rfl))
    exact ld_r _ g y rfl q7 (HD.out.ext hJ.st) (hK _ _ (hJ.nx hls hT rfl rfl hJ.st (no_head rfl)))
   ·have kg := hJ.is hT (hdep ⟨2, .guard⟩ (by simp) rfl) rfl _ rfl _ rfl
    rw [if_pos (wanted_of rfl rfl rfl kg)]
    clear kg
    intro K hK
    have q0 := hout 0 (outB_spec (by kernel_rfl))
    refine wp_mv _ rfl (hK _ _ ?_)
    rw [show a.eval (.tmp 0) = .slice (some ⟨ab, ofs, none⟩) n cap from q0]
    exact hJ.nx hls hT rfl rfl hJ.st (no_head rfl)
   ·have kg := hJ.is hT (hdep ⟨2, .guard⟩ (by simp) rfl) rfl _ rfl _ rfl
    rw [if_pos (wanted_of rfl rfl rfl kg)]
    clear kg
    intro K hK
    have q6 := hout 6 (outB_spec (by kernel_rfl))
    refine wp_mv _ rfl (hK _ _ ?_)
    rw [show a.eval (.tmp 6) = .int .i64 (k : Int) from q6]
    exact hJ.nx hls hT rfl rfl hJ.st (no_head rfl)
   ·have kg := hJ.is hT (hdep ⟨2, .guard⟩ (by simp) rfl) rfl _ rfl _ rfl
    rw [if_pos (wanted_of rfl rfl rfl kg)]
    clear kg
    intro K hK
    have q31 := hJ.iq hT (hdep ⟨4, .data⟩ (by simp) rfl) rfl _ rfl _ rfl
    have q32 := hJ.iq hT (hdep ⟨5, .data⟩ (by simp) rfl) rfl _ rfl _ rfl
    clear hsz hdep hout hlat
    go_simp
    exact hK _ _ (hJ.nx hls hT rfl rfl hJ.st (no_head rfl))
   ·have kg := hJ.is hT (hdep ⟨2, .guard⟩ (by simp) rfl) rfl _ rfl _ rfl
    rw [if_pos (wanted_of rfl rfl rfl kg)]
    clear kg
    intro K hK
    have q33 := hJ.iq hT (hdep ⟨6, .data⟩ (by simp) rfl) rfl _ rfl _ rfl
    clear hsz hdep hout hlat
    go_simp
    exact hK _ _ (hJ.nx hls hT rfl rfl hJ.st (no_head rfl))
   ·have kg := hJ.is hT (hdep ⟨2, .guard⟩ (by simp) rfl) rfl _ rfl _ rfl
    rw [if_pos (wanted_of rfl rfl rfl kg)]
    clear kg
    intro K hK
    have q34 := hJ.is hT (hdep ⟨7, .data⟩ (by simp) rfl) rfl _ rfl _ rfl
    exact ld_dpr _ ab (ofs + k * 68) x XI.out.q.ok XI.out.r.ok rfl q34 (XRG.out _ (Ex.trans BX2.out hJ.st)) (hK _ _ (hJ.nx hls hT rfl rfl hJ.st (no_head rfl)))
   ·have kg := hJ.is hT (hdep ⟨2, .guard⟩ (by simp) rfl) rfl _ rfl _ rfl
    rw [if_pos (wanted_of rfl rfl rfl kg)]
    clear kg
    intro K hK
    have q30 := hJ.iq hT (hdep ⟨3, .data⟩ (by simp) rfl) rfl _ rfl _ rfl
    have q35 := hJ.iq hT (hdep ⟨8, .data⟩ (by simp) rfl) rfl _ rfl _ rfl
    have hst := hJ.st
    clear hsz hdep hout hlat
    go_simp
    refine (rreplies_any y x.r w4 (YI.out.ext hst) (XI.out.r.ext (Ex.trans BX2.out hst))).mono ?_
    rintro e wq ⟨rfl, xq⟩
    exact hK _ _ (hJ.nx hls hT rfl (by exact congrArg Value.bool HB.out.symm) (Ex.trans hst xq) (no_head rfl))
   ·have kg := hJ.is hT (hdep ⟨2, .guard⟩ (by simp) rfl) rfl _ rfl _ rfl
    rw [if_pos (wanted_of rfl rfl rfl kg)]
    clear kg
    intro K hK
    have q36 := hJ.iq hT (hdep ⟨9, .data⟩ (by simp) rfl) rfl _ rfl _ rfl
    clear hsz hdep hout hlat
    go_simp
    exact hK _ _ (hJ.nx hls hT rfl rfl hJ.st (no_head rfl))
   have q29 := hJ.iq hT (hdep ⟨2, .data⟩ (by simp) rfl) rfl _ rfl _ rfl
   have q37 := hJ.iq hT (hdep ⟨10, .data⟩ (by simp) rfl) rfl _ rfl _ rfl
   clear hsz hdep hout hlat
   go_simp
   exact hK _ _ (hJ.nx hls hT rfl rfl hJ.st (no_head rfl))
  intro listed f w4 hall hJ
  have f11 : f 11 = .bool (!b) := by
   have h := hJ.vals 11 (hall 11 (by simp))
   rw [hT] at h; exact h
  have hst := hJ.st
  simp only [putAll, Act.put, List.setIfInBounds_toArray, List.set_cons_zero, List.set_cons_succ, Nat.zero_add, Nat.reduceAdd]
  have x4 : Ex w3 w4 := hst
  replace HP2 := Hi (HP2.out.ext x4)
  replace HRS2 := Hi (x4.row HRS2.out)
  replace BX2 := Hi (Ex.trans BX2.out x4)
  clear x4 hst hS0
  rw [f11]
  clear f11
  clear hJ hall hT
  cases b
  ·have HNE : Hid (Y2 k ≠ x.r.ct) := Hi (by rw [C3.out]; exact of_decide_eq_false HB.out.symm)
   go_wp2_with (first | ((with_reducible refine so0 ?_ ?_); (focus rfl)) | (with_reducible refine stop_app ?_) | (with_reducible refine stop_bs ?_))
   refine at9 (by go_simp) fun K0 hK => ld_dpr _ ab (ofs + k * 68) x XI.out.q.ok XI.out.r.ok rfl rfl (XRG.out _ BX2.out) (hK _ _ ?_)
   clear hK
   go_wp2_with (first | ((with_reducible refine so0 ?_ ?_); (focus rfl)) | (with_reducible refine stop_app ?_) | (with_reducible refine stop_bs ?_))
   refine at9 (by go_simp) fun K0 hK => wp_bs1 98 83 zeroRt.V 10 72 _ x.r.C rfl Try.underlying98 Try.infoRt rfl (by decide) (by decide) (Rt.len XI.out.r.ok) rfl (hK _ _ ?_)
   clear hK
   have xa := Ex.alloc w4 (.cells x.r.C.toArray 83)
   have NB := Hi (Bk.new (g := w4.heap.size) (w := w4) rfl 83 x.r.C.toArray)
   replace HP2 := Hi (HP2.out.ext xa)
   replace HRS2 := Hi (xa.row HRS2.out)
   replace BX2 := Hi (Ex.trans BX2.out xa)
   generalize hw5 : w4.alloc (.cells x.r.C.toArray 83) = w5 at *
   obtain ⟨g2, hg⟩ : ∃ g, g = w4.heap.size := ⟨_, rfl⟩
   rw [← hg] at NB ⊢
   clear hw5 hg xa
   have MR := Hi (Many.rd (n := 1) (sz := 10) ⟨g2, rfl, NB.out⟩ (Rt.len XI.out.r.ok))
   go_wp2_with (first | ((with_reducible refine so0 ?_ ?_); (focus rfl)) | (with_reducible refine stop_app ?_) | (with_reducible refine stop_bs ?_))
   obtain ⟨adx, ex, nx, rx⟩ := MR.out
   cases ex
   have RX := Hi rx
   clear rx nx MR
   refine at9 (by go_simp) fun K0 hK => wp_rd _ _ 98 83 zeroRt.V 10 72 rfl Try.underlying98 Try.infoRt rfl (by decide) w.heap.size k _ _ rfl HRS2.out BX2.out.sz' _ 1 1 _ rfl RX.out (Nat.le_refl _) (fun h => by cases h) x.r.C_one (by omega) (by omega) (fun v5 w6 r1 r2 => hK _ _ ?_)
   clear hK
   replace BX2 := Hi (show Ex w w6 from Below.trans (show Below w.heap.size w _ from BX2.out) r2.below)
   have HP3 := Hi (HP2.out.kt r2 (by decide) (by decide) (by decide))
   have HRS3 : Hid (w6.ownsRow w.heap.size 83 10 v5 (k + 1) (((l.take (k + 1)).map Dt.r).flatMap Rt.C)) := Hi (by rw [List.take_add_one, HX.out, List.map_append, List.flatMap_append]; simpa using r1)
   clear r1 r2
   go_wp2_with fail
   go_roundw
   case rel => exact ⟨k + 1, (k : Int), rv2, xs2, by omega, by go_num, rfl, by omega, by omega, HP3, HR2, by omega, Hi ⟨X2, Y2, C1.out, C2.out, HFK.out.found C4.out HX.out HNE.out⟩, HRS3, BX2⟩
   case measure => simp [intOf]; omega
  have HE : Hid (Y2 k = x.r.ct) := Hi (by rw [C3.out]; exact of_decide_eq_true HB.out.symm)
  go_wp2_with (first | ((with_reducible refine so0 ?_ ?_); (focus rfl)) | (with_reducible refine stop_app ?_) | (with_reducible refine stop_bs ?_))
  refine at9 (by go_simp) fun K0 hK => ld_dpr _ ab (ofs + k * 68) x XI.out.q.ok XI.out.r.ok rfl rfl (XRG.out _ BX2.out) (hK _ _ ?_)
  clear hK
  go_wp2_with (first | ((with_reducible refine so0 ?_ ?_); (focus rfl)) | (with_reducible refine stop_app ?_) | (with_reducible refine stop_bs ?_))
  refine at9 (by go_simp) fun K0 hK => wp_bs1 98 83 zeroRt.V 10 72 _ x.r.C rfl Try.underlying98 Try.infoRt rfl (by decide) (by decide) (Rt.len XI.out.r.ok) rfl (hK _ _ ?_)
  clear hK
  have xa := Ex.alloc w4 (.cells x.r.C.toArray 83)
  have NB := Hi (Bk.new (g := w4.heap.size) (w := w4) rfl 83 x.r.C.toArray)
  replace HP2 := Hi (HP2.out.ext xa)
  replace HRS2 := Hi (xa.row HRS2.out)
  replace BX2 := Hi (Ex.trans BX2.out xa)
  generalize hw5 : w4.alloc (.cells x.r.C.toArray 83) = w5 at *
  obtain ⟨g2, hg⟩ : ∃ g, g = w4.heap.size := ⟨_, rfl⟩
  rw [← hg] at NB ⊢
  clear hw5 hg xa
  have MR := Hi (Many.rd (n := 1) (sz := 10) ⟨g2, rfl, NB.out⟩ (Rt.len XI.out.r.ok))
  go_wp2_with (first | ((with_reducible refine so0 ?_ ?_); (focus rfl)) | (with_reducible refine stop_app ?_) | (with_reducible refine stop_bs ?_))
  obtain ⟨adx, ex, nx, rx⟩ := MR.out
  cases ex
  have RX := Hi rx
  clear rx nx MR
  refine at9 (by go_simp) fun K0 hK => wp_rd _ _ 98 83 zeroRt.V 10 72 rfl Try.underlying98 Try.infoRt rfl (by decide) w.heap.size k _ _ rfl HRS2.out BX2.out.sz' _ 1 1 _ rfl RX.out (Nat.le_refl _) (fun h => by cases h) x.r.C_one (by omega) (by omega) (fun v5 w6 r1 r2 => hK _ _ ?_)
  clear hK
  replace BX2 := Hi (show Ex w w6 from Below.trans (show Below w.heap.size w _ from BX2.out) r2.below)
  have HP3 := Hi (HP2.out.kt r2 (by decide) (by decide) (by decide))
  have HRS3 : Hid (w6.ownsRow w.heap.size 83 10 v5 (k + 1) (((l.take (k + 1)).map Dt.r).flatMap Rt.C)) := Hi (by rw [List.take_add_one, HX.out, List.map_append, List.flatMap_append]; simpa using r1)
  clear r1 r2
  go_wp2_with fail
  go_roundw
  case rel => exact ⟨k + 1, -1, rv2, xs2, by omega, by go_num, rfl, by omega, by omega, HP3, HR2, by omega, Hi ⟨X2, Y2, C1.out, C2.out, HFK.out.good C4.out HX.out HE.out⟩, HRS3, BX2⟩
  case measure => simp [intOf]; omega
 obtain rfl : k = n := by omega
 have q1 : ¬ (k : Int) < (k : Int) := by omega
 go_wp2_with fail
 obtain ⟨X, Y, hch, hX, hfk⟩ := HCH.out
 rw [HN.out] at hch hfk hX
 have HCC := Hi hch.chain
 have HFB := Hi hfk.bad
 have HXN := Hi hX
 have C1 : Hid (∀ w1, Ex wr w1 → Calls Try.prog 81 #[.slice ad k cap] w1 fun e w9 => e = .returned (.int .i64 an9) ∧ Ex w1 w9) := Hi (fun w1 e1 => by
  have h := check_any ad cap l X Y w1 (by rw [← HN.out]; omega) (HIN.out.ext (Ex.trans BX.out e1)) HCC.out
  rw [← HN.out] at h
  refine h.mono ?_
  rintro e w9 ⟨n9, rfl, h1, h2⟩
  exact ⟨by rw [HFB.out.uniq h1], h2⟩)
 have C2 : Hid (∀ w1, Ex wr w1 → Calls Try.prog 82 #[.slice ad k cap] w1 (FinalPost xs w1)) := Hi (fun w1 e1 => by
  have h := final_any ad cap l X Y w1 (by rw [← HN.out]; omega) (HIN.out.ext (Ex.trans BX.out e1)) HCC.out
  rw [← HN.out] at h
  rw [← HXN.out]
  rw [← HN.out]; exact h)
 clear hch hX hfk HCC HFB HXN HCH X Y
 obtain ⟨adp, capp, ervp, hinp, hcapp⟩ := HP.out.inn
 have HERV := Hi ervp
 have HINP := Hi hinp
 obtain ⟨m, hm⟩ : ∃ m, m = xs.length := ⟨_, rfl⟩
 have HM := Hi hm
 have hmk : m ≤ k := by omega
 clear hm ervp hinp hxl
 have hS0 : ∀ (listed : Array Bool) (f : Nat → Value), (∀ i, listed.getD i false = false) → Ex wr wr.drew := fun _ _ _ => (Below.refl wr.heap.size wr).drew
 obtain ⟨T, hT⟩ : ∃ T : List (Value → Prop), T = [(fun zz => zz = .slice ad k cap), (fun zz => zz = .int .i64 an9), (fun zz => zz = .int .i64 an9), (fun zz => zz = .bool false), (fun zz => zz = .bool false), (fun zz => zz = .slice ad k cap), (fun zz => ∃ (a9 : Option Addr) (c9 : Nat), zz = .slice a9 m c9), (fun zz => zz = .int .i64 (m : Int)), (fun zz => zz = .pointer (some ⟨P, 0, none⟩)), (fun zz => zz = .pointer (some ⟨P, 0, none⟩)), (fun zz => zz = .pointer (some ⟨P, 0, none⟩)), (fun zz => zz = .slice adp m capp), (fun zz => zz = .int .i64 (m : Int)), (fun zz => zz = .bool false), (fun zz => zz = .bool false)] := ⟨_, rfl⟩
 refine wp_region_gen (JS T ([] : List (Nat × Nat)) (fun _ _ wq => Ex wr wq)) (by kernel_rfl) (by kernel_rfl) (by kernel_rfl) (fitB_spec (by kernel_rfl)) (fun listed f h => JS.start listed f h (hS0 listed f h)) ?_ ?_
 ·intro i o ho
  have hi : i < 15 := (Array.getElem?_eq_some_iff.1 ho).1
  have hi' : i = 0 ∨ i = 1 ∨ i = 2 ∨ i = 3 ∨ i = 4 ∨ i = 5 ∨ i = 6 ∨ i = 7 ∨ i = 8 ∨ i = 9 ∨ i = 10 ∨ i = 11 ∨ i = 12 ∨ i = 13 ∨ i = 14 := by omega
  clear hi
  rcases hi' with rfl | rfl | rfl | rfl | rfl | rfl | rfl | rfl | rfl | rfl | rfl | rfl | rfl | rfl | rfl
  all_goals (simp only [List.getElem?_toArray, List.getElem?_cons_zero, List.getElem?_cons_succ, Option.some.injEq] at ho; subst ho; intro listed f a w4 hJ hsz hls hun hdep hout hlat; first | (rw [if_pos (by rfl)]; intro K hK) | skip)
  ·have q0 := hout 0 (outB_spec (by kernel_rfl))
   refine wp_mv _ rfl (hK _ _ ?_)
   rw [show a.eval (.tmp 0) = .slice ad k cap from q0]
   exact hJ.nx hls hT rfl rfl hJ.st (no_head rfl)
  ·have q48 := hJ.iq hT (hdep ⟨0, .data⟩ (by simp) rfl) rfl _ rfl _ rfl
   have hst := hJ.st
   clear hsz hdep hout hlat
   go_simp
   refine (C1.out w4 hst).mono ?_
   rintro e wq ⟨rfl, xq⟩
   exact hK _ _ (hJ.nx hls hT rfl rfl (Ex.trans hst xq) (no_head rfl))
  ·have q4 := hout 4 (outB_spec (by kernel_rfl))
   refine wp_mv _ rfl (hK _ _ ?_)
   rw [show a.eval (.tmp 4) = .int .i64 an9 from q4]
   exact hJ.nx hls hT rfl rfl hJ.st (no_head rfl)
  ·have q49 := hJ.iq hT (hdep ⟨1, .data⟩ (by simp) rfl) rfl _ rfl _ rfl
   have q50 := hJ.iq hT (hdep ⟨2, .data⟩ (by simp) rfl) rfl _ rfl _ rfl
   clear hsz hdep hout hlat
   go_simp
   exact hK _ _ (hJ.nx hls hT rfl rfl hJ.st (no_head rfl))
  ·have q51 := hJ.is hT (hdep ⟨3, .data⟩ (by simp) rfl) rfl _ rfl _ rfl
   refine wp_mv _ rfl (hK _ _ ?_)
   rw [show a.eval (.tmp 51) = .bool false from q51]
   exact hJ.nx hls hT rfl rfl hJ.st (no_head rfl)
  ·have kg := hJ.is hT (hdep ⟨4, .guard⟩ (by simp) rfl) rfl _ rfl _ rfl
   rw [if_pos (wanted_of rfl rfl rfl kg)]
   clear kg
   intro K hK
   have q0 := hout 0 (outB_spec (by kernel_rfl))
   refine wp_mv _ rfl (hK _ _ ?_)
   rw [show a.eval (.tmp 0) = .slice ad k cap from q0]
   exact hJ.nx hls hT rfl rfl hJ.st (no_head rfl)
  ·have kg := hJ.is hT (hdep ⟨4, .guard⟩ (by simp) rfl) rfl _ rfl _ rfl
   rw [if_pos (wanted_of rfl rfl rfl kg)]
   clear kg
   intro K hK
   have q53 := hJ.iq hT (hdep ⟨5, .data⟩ (by simp) rfl) rfl _ rfl _ rfl
   have hst := hJ.st
   clear hsz hdep hout hlat
   go_simp
   refine (C2.out w4 hst).mono ?_
   rintro e wq ⟨v9, ys, rfl, hrow, hlen, _, xq⟩
   obtain ⟨a9, c9, e9, _⟩ := hrow.inn
   exact hK _ _ (hJ.nx hls hT rfl (by exact ⟨a9, c9, by rw [e9, hlen, HM.out]⟩) (Ex.trans hst xq) (no_head rfl))
  ·have kg := hJ.is hT (hdep ⟨4, .guard⟩ (by simp) rfl) rfl _ rfl _ rfl
   rw [if_pos (wanted_of rfl rfl rfl kg)]
   clear kg
   intro K hK
   have dd54 := hdep ⟨6, .data⟩ (by simp) rfl
   have q54 := dd54.2 _ rfl _ rfl
   have h54 := hJ.vals 6 dd54.1
   rw [hT] at h54
   have h54 : (fun zz => ∃ (a9 : Option Addr) (c9 : Nat), zz = .slice a9 m c9) (f 6) := h54
   obtain ⟨a54, c54, e54⟩ := h54
   rw [e54] at q54
   clear dd54
   rw [Array.getD_eq_getD_getElem?] at q54
   clear hsz hdep hout hlat
   go_simp
   exact hK _ _ (hJ.nx hls hT rfl rfl hJ.st (no_head rfl))
  ·have kg := hJ.is hT (hdep ⟨4, .guard⟩ (by simp) rfl) rfl _ rfl _ rfl
   rw [if_pos (wanted_of rfl rfl rfl kg)]
   clear kg
   intro K hK
   have q3 := hout 3 (outB_spec (by kernel_rfl))
   refine wp_mv _ rfl (hK _ _ ?_)
   rw [show a.eval (.tmp 3) = .pointer (some ⟨P, 0, none⟩) from q3]
   exact hJ.nx hls hT rfl rfl hJ.st (no_head rfl)
  ·have kg := hJ.is hT (hdep ⟨4, .guard⟩ (by simp) rfl) rfl _ rfl _ rfl
   rw [if_pos (wanted_of rfl rfl rfl kg)]
   clear kg
   intro K hK
   have q56 := hJ.iq hT (hdep ⟨8, .data⟩ (by simp) rfl) rfl _ rfl _ rfl
   clear hsz hdep hout hlat
   go_simp
   exact hK _ _ (hJ.nx hls hT rfl rfl hJ.st (no_head rfl))
  ·have kg := hJ.is hT (hdep ⟨4, .guard⟩ (by simp) rfl) rfl _ rfl _ rfl
   rw [if_pos (wanted_of rfl rfl rfl kg)]
   clear kg
   intro K hK
   have q57 := hJ.iq hT (hdep ⟨9, .data⟩ (by simp) rfl) rfl _ rfl _ rfl
   clear hsz hdep hout hlat
   go_simp
   exact hK _ _ (hJ.nx hls hT rfl rfl hJ.st (no_head rfl))
  ·have kg := hJ.is hT (hdep ⟨4, .guard⟩ (by simp) rfl) rfl _ rfl _ rfl
   rw [if_pos (wanted_of rfl rfl rfl kg)]
   clear kg
   intro K hK
   have q58 := hJ.iq hT (hdep ⟨10, .data⟩ (by simp) rfl) rfl _ rfl _ rfl
   have cc : w4.cell? ⟨P, 0, none⟩ = some (.slice adp m capp) := by rw [((HP.out.blk).ext hJ.st).cell, HERV.out, ← HM.out]; rfl
   clear hsz hdep hout hlat
   go_simp
   exact hK _ _ (hJ.nx hls hT rfl rfl hJ.st (no_head rfl))
  ·have kg := hJ.is hT (hdep ⟨4, .guard⟩ (by simp) rfl) rfl _ rfl _ rfl
   rw [if_pos (wanted_of rfl rfl rfl kg)]
   clear kg
   intro K hK
   have q59 := hJ.iq hT (hdep ⟨11, .data⟩ (by simp) rfl) rfl _ rfl _ rfl
   clear hsz hdep hout hlat
   go_simp
   exact hK _ _ (hJ.nx hls hT rfl rfl hJ.st (no_head rfl))
  ·have kg := hJ.is hT (hdep ⟨4, .guard⟩ (by simp) rfl) rfl _ rfl _ rfl
   rw [if_pos (wanted_of rfl rfl rfl kg)]
   clear kg
   intro K hK
   have q55 := hJ.iq hT (hdep ⟨7, .data⟩ (by simp) rfl) rfl _ rfl _ rfl
   have q60 := hJ.iq hT (hdep ⟨12, .data⟩ (by simp) rfl) rfl _ rfl _ rfl
   clear hsz hdep hout hlat
   go_simp
   exact hK _ _ (hJ.nx hls hT rfl rfl hJ.st (no_head rfl))
  have q52 := hJ.iq hT (hdep ⟨4, .data⟩ (by simp) rfl) rfl _ rfl _ rfl
  have q61 := hJ.iq hT (hdep ⟨13, .data⟩ (by simp) rfl) rfl _ rfl _ rfl
  clear hsz hdep hout hlat
  go_simp
  exact hK _ _ (hJ.nx hls hT rfl rfl hJ.st (no_head rfl))
 intro listed f w4 hall hJ
 have f14 : f 14 = .bool false := by
  have h := hJ.vals 14 (hall 14 (by simp))
  rw [hT] at h; exact h
 have hst := hJ.st
 simp only [putAll, Act.put, List.setIfInBounds_toArray, List.set_cons_zero, List.set_cons_succ, Nat.zero_add, Nat.reduceAdd]
 have X4 : Hid (Ex wr w4) := Hi hst
 clear hst hS0
 rw [f14]
 clear f14
 clear hJ hall hT
 go_wp2_with fail
 refine (C2.out w4 X4.out).mono ?_
 rintro e wF ⟨v9, ys, rfl, hrow, hlen, hmem, xq⟩
 obtain ⟨ady, capy, e9, hiny⟩ := hrow.inn
 subst e9
 have HYR := Hi hrow
 have HYI := Hi hiny
 have HMEM := Hi hmem
 have hyl : ys.length = m := by rw [hlen, HM.out]
 rw [hyl]
 have HYL := Hi hyl
 have XF := Hi (Ex.trans X4.out xq)
 clear hrow hiny hmem hyl hlen xq C1 C2 X4
 have HPF := Hi (HP.out.ext XF.out)
 have HRF := Hi (XF.out.row HRS.out)
 have BF := Hi (Ex.trans BX.out XF.out)
 clear HP HRS XF BX
 go_wp2_with fail
 go_loopw [66] (fun t66 wq => ∃ i : Nat, i ≤ m ∧ t66 = .int .i64 i ∧ Hid (Ex wF wq)) (fun t66 _ => m - (intOf t66).toNat)
 case atStart => exact ⟨0, by omega, rfl, Hi (Ex.refl _)⟩
 obtain ⟨i, hi, rfl, BX⟩ := hrel
 by_cases hit : i < m
 rotate_left
 ·obtain rfl : i = m := by omega
  have q2 : ¬ (i : Int) < (i : Int) := by omega
  have HTK : Hid (l.take k = l) := Hi (by rw [HN.out]; exact List.take_length)
  have hrs := BX.out.row HRF.out
  rw [HTK.out] at hrs
  obtain ⟨adr, capr, er, hrin⟩ := Rp.of_own (l := l.map Dt.r) (by rw [List.length_map]; exact HN.out) hrs (fun x hx => by
   obtain ⟨d, hd, e⟩ := List.mem_map.1 hx
   obtain ⟨p, hp, e2⟩ := List.getElem_of_mem hd
   rw [← e]; exact ((HIN.out.ins p d (by rw [List.getElem?_eq_getElem hp, e2])).ext (Ex.trans BF.out BX.out)).r)
  subst er
  have HRI := Hi hrin
  clear hrs hrin HTK
  rw [show (l.map Dt.r).length = k by rw [List.length_map]; exact HN.out.symm]
  have C9 : Hid (Calls Try.prog 46 #[.slice adr k capr] wr fun e w9 => e = .returned (.bool true) ∧ Ex wr w9) := Hi (by
   have h := replies25 adr capr (l.map Dt.r) wr (by rw [List.length_map, ← HN.out]; omega) HRI.out
   rw [show (l.map Dt.r).length = k by rw [List.length_map]; exact HN.out.symm] at h; exact h)
  go_wp2_with fail
  refine C9.out.mono ?_
  rintro e w9 ⟨rfl, x9⟩
  have Z := Hi (Ex.trans BF.out (Ex.trans BX.out x9))
  clear C9 x9
  go_wp2_with fail
  go_ret
  exact ⟨rfl, Z.out⟩
 obtain ⟨y, hy⟩ : ∃ y, ys[i]? = some y := ⟨_, List.getElem?_eq_getElem (by rw [HYL.out]; exact hit)⟩
 obtain ⟨ab, ofs, rfl, hab, hra⟩ := (HYI.out.ext BX.out).read (by rw [HYL.out]; omega)
 have HY := Hi hy
 have YT := Hi ((HYR.out.ins i y hy).ext BX.out)
 have YR := Hi (hra i y hy)
 clear hra hab hy
 have q0 : (0 : Int) ≤ (i : Int) := by omega
 have q2 : (i : Int) < (m : Int) := by omega
 go_wp2_with (first | ((with_reducible refine so0 ?_ ?_); (focus rfl)) | (with_reducible refine stop_app ?_) | (with_reducible refine stop_bs ?_))
 refine at9 (by go_simp) fun K0 hK => ld_vr _ ab (ofs + i * 42) y YT.out.ok rfl rfl YR.out (hK _ _ ?_)
 clear hK
 go_wp2_with (first | ((with_reducible refine so0 ?_ ?_); (focus rfl)) | (with_reducible refine stop_app ?_) | (with_reducible refine stop_bs ?_))
 refine at9 (by go_simp) fun K0 hK => st_v _ _ wr.heap.size y rfl rfl rfl YT.out.ok (Bk.new rfl _ _) (by rfl) (fun w3 hd ho => hK _ _ ?_)
 clear hK
 have x3 : Ex wr w3 := ho.below wr.heap.size (Nat.le_refl _) wr (Ex.alloc wr _)
 obtain ⟨g, hg⟩ : ∃ g, g = wr.heap.size := ⟨_, rfl⟩
 rw [← hg] at hd ⊢
 have HD := Hi hd
 replace YT := Hi (YT.out.ext x3)
 replace BX := Hi (Ex.trans BX.out x3)
 clear hd ho hg x3 YR
 go_wp2_with fail
 go_loopw [10, 11] (fun t10 t11 wq => ∃ (b : Bool) (j : Nat), j ≤ m ∧ t10 = .bool b ∧ t11 = .int .i64 j ∧ Hid (b = true ↔ ∃ (p : Nat) (z : Vt), p < j ∧ xs[p]? = some z ∧ y.ct = z.ct) ∧ Hid (Ex w3 wq)) (fun _ t11 _ => m - (intOf t11).toNat)
 case atStart => exact ⟨false, 0, by omega, rfl, rfl, Hi ⟨fun h => (by cases h), fun ⟨p, z, h, _⟩ => absurd h (Nat.not_lt_zero p)⟩, Hi (Ex.refl _)⟩
 obtain ⟨b, j, hj, rfl, rfl, HBJ, BJ⟩ := hrel
 have PBJ := Hi ((HPF.out.ext BX.out).ext BJ.out)
 have c0 : wr.cell? ⟨P, 0, none⟩ = some (.slice adp m capp) := by rw [PBJ.out.blk.cell, HERV.out, ← HM.out]; rfl
 by_cases hjt : j < m
 rotate_left
 ·obtain rfl : j = m := by omega
  have j1 : ¬ (j : Int) < (j : Int) := by omega
  have hbt : b = true := HBJ.out.2 (by
   have h1 := (HMEM.out y.ct).1 (List.mem_map.2 ⟨y, List.mem_of_getElem? HY.out, rfl⟩)
   obtain ⟨z, hz, e⟩ := List.mem_map.1 h1
   obtain ⟨p, hp, e2⟩ := List.getElem_of_mem hz
   exact ⟨p, z, by rw [HM.out]; exact hp, by rw [List.getElem?_eq_getElem hp, e2], e.symm⟩)
  subst hbt
  replace BX := Hi (Ex.trans BX.out BJ.out)
  clear BJ PBJ
  go_wp2_with fail
  go_roundw
  case rel => exact ⟨i + 1, by omega, by go_num, BX⟩
  case measure => simp [intOf]; omega
 obtain ⟨z, hz⟩ : ∃ z, xs[j]? = some z := ⟨_, List.getElem?_eq_getElem (by rw [← HM.out]; exact hjt)⟩
 obtain ⟨ad3, cap3, erv3, hin3, _⟩ := PBJ.out.inn
 have hadp : ad3 = adp ∧ cap3 = capp := by (have h := HERV.out; rw [erv3] at h; cases h; exact ⟨rfl, rfl⟩)
 obtain ⟨rfl, rfl⟩ := hadp
 obtain ⟨ab2, ofs2, rfl, hab2, hra2⟩ := hin3.read (by rw [← HM.out]; omega)
 have HZ := Hi hz
 have ZI := Hi (PX.vi (PBJ.out.ins j z hz) PBJ.out.sz)
 have ZR := Hi (hra2 j z hz)
 have HAB2 := Hi hab2
 have YJ := Hi ((YT.out.ext BJ.out).vi)
 have HDJ := Hi (HD.out.ext BJ.out)
 clear hra2 hab2 hz hin3 erv3
 have j0 : (0 : Int) ≤ (j : Int) := by omega
 have j1 : (j : Int) < (m : Int) := by omega
 go_wp2_with fail
 cases b
 rotate_left
 ·skip
  have hS0 : ∀ (listed : Array Bool) (f : Nat → Value), (∀ i, listed.getD i false = false) → Ex wr wr.drew := fun _ _ _ => (Below.refl wr.heap.size wr).drew
  obtain ⟨T, hT⟩ : ∃ T : List (Value → Prop), T = [(fun zz => zz = .bool true), (fun zz => zz = .bool true), (fun zz => zz = undef), (fun zz => zz = undef), (fun zz => zz = undef), (fun zz => zz = undef), (fun zz => zz = undef), (fun zz => zz = undef), (fun zz => zz = undef), (fun zz => zz = undef), (fun zz => zz = undef), (fun zz => zz = .bool true), (fun zz => zz = .bool true)] := ⟨_, rfl⟩
  refine wp_region_gen (JS T ([] : List (Nat × Nat)) (fun _ _ wq => Ex wr wq)) (by kernel_rfl) (by kernel_rfl) (by kernel_rfl) (fitB_spec (by kernel_rfl)) (fun listed f h => JS.start listed f h (hS0 listed f h)) ?_ ?_
  ·intro i o ho
   have hi : i < 13 := (Array.getElem?_eq_some_iff.1 ho).1
   have hi' : i = 0 ∨ i = 1 ∨ i = 2 ∨ i = 3 ∨ i = 4 ∨ i = 5 ∨ i = 6 ∨ i = 7 ∨ i = 8 ∨ i = 9 ∨ i = 10 ∨ i = 11 ∨ i = 12 := by omega
   clear hi
   rcases hi' with rfl | rfl | rfl | rfl | rfl | rfl | rfl | rfl | rfl | rfl | rfl | rfl | rfl
   all_goals (simp only [List.getElem?_toArray, List.getElem?_cons_zero, List.getElem?_cons_succ, Option.some.injEq] at ho; subst ho; intro listed f a w4 hJ hsz hls hun hdep hout hlat; first | (rw [if_pos (by rfl)]; intro K hK) | skip)
   ·have q10 := hlat 10 12 _ rfl rfl ⟨⟨0, .phase⟩, by simp, rfl, rfl⟩
    refine wp_mv _ rfl (hK _ _ ?_)
    rw [show a.eval (.tmp 10) = .bool true from q10]
    exact hJ.nx hls hT rfl rfl hJ.st (no_head rfl)
   ·have q79 := hJ.is hT (hdep ⟨0, .data⟩ (by simp) rfl) rfl _ rfl _ rfl
    refine wp_mv _ rfl (hK _ _ ?_)
    rw [show a.eval (.tmp 79) = .bool true from q79]
    exact hJ.nx hls hT rfl rfl hJ.st (no_head rfl)
   ·have kg := hJ.is hT (hdep ⟨1, .guard⟩ (by simp) rfl) rfl _ rfl _ rfl
    rw [if_neg (not_wanted rfl rfl rfl kg (by decide))]
    exact hJ.nx hls hT rfl (by first | exact trivial | rfl) hJ.st (no_head rfl)
   ·have kg := hJ.is hT (hdep ⟨1, .guard⟩ (by simp) rfl) rfl _ rfl _ rfl
    rw [if_neg (not_wanted rfl rfl rfl kg (by decide))]
    exact hJ.nx hls hT rfl (by first | exact trivial | rfl) hJ.st (no_head rfl)
   ·have kg := hJ.is hT (hdep ⟨1, .guard⟩ (by simp) rfl) rfl _ rfl _ rfl
    rw [if_neg (not_wanted rfl rfl rfl kg (by decide))]
    exact hJ.nx hls hT rfl (by first | exact trivial | rfl) hJ.st (no_head rfl)
   ·have kg := hJ.is hT (hdep ⟨1, .guard⟩ (by simp) rfl) rfl _ rfl _ rfl
    rw [if_neg (not_wanted rfl rfl rfl kg (by decide))]
    exact hJ.nx hls hT rfl (by first | exact trivial | rfl) hJ.st (no_head rfl)
   ·have kg := hJ.is hT (hdep ⟨1, .guard⟩ (by simp) rfl) rfl _ rfl _ rfl
    rw [if_neg (not_wanted rfl rfl rfl kg (by decide))]
    exact hJ.nx hls hT rfl (by first | exact trivial | rfl) hJ.st (no_head rfl)
   ·have kg := hJ.is hT (hdep ⟨1, .guard⟩ (by simp) rfl) rfl _ rfl _ rfl
    rw [if_neg (not_wanted rfl rfl rfl kg (by decide))]
    exact hJ.nx hls hT rfl (by first | exact trivial | rfl) hJ.st (no_head rfl)
   ·have kg := hJ.is hT (hdep ⟨1, .guard⟩ (by simp) rfl) rfl _ rfl _ rfl
    rw [if_neg (not_wanted rfl rfl rfl kg (by decide))]
    exact hJ.nx hls hT rfl (by first | exact trivial | rfl) hJ.st (no_head rfl)
   ·have kg := hJ.is hT (hdep ⟨1, .guard⟩ (by simp) rfl) rfl _ rfl _ rfl
    rw [if_neg (not_wanted rfl rfl rfl kg (by decide))]
    exact hJ.nx hls hT rfl (by first | exact trivial | rfl) hJ.st (no_head rfl)
   ·have kg := hJ.is hT (hdep ⟨1, .guard⟩ (by simp) rfl) rfl _ rfl _ rfl
    rw [if_neg (not_wanted rfl rfl rfl kg (by decide))]
    exact hJ.nx hls hT rfl (by first | exact trivial | rfl) hJ.st (no_head rfl)
   ·have q80 := hJ.iq hT (hdep ⟨1, .data⟩ (by simp) rfl) rfl _ rfl _ rfl
    have q89 := hJ.iq hT (hdep ⟨10, .data⟩ (by simp) rfl) rfl _ rfl _ rfl
    clear hsz hdep hout hlat
    go_simp
    exact hK _ _ (hJ.nx hls hT rfl rfl hJ.st (no_head rfl))
   have q90 := hJ.iq hT (hdep ⟨11, .data⟩ (by simp) rfl) rfl _ rfl _ rfl
   clear hsz hdep hout hlat
   go_simp
   exact hK _ _ (hJ.nx hls hT rfl rfl hJ.st (no_head rfl))
  intro listed f w4 hall hJ
  have f11 : f 11 = .bool true := by
   have h := hJ.vals 11 (hall 11 (by simp))
   rw [hT] at h; exact h
  have f12 : f 12 = .bool true := by
   have h := hJ.vals 12 (hall 12 (by simp))
   rw [hT] at h; exact h
  have hst := hJ.st
  simp only [putAll, Act.put, List.setIfInBounds_toArray, List.set_cons_zero, List.set_cons_succ, Nat.zero_add, Nat.reduceAdd]
  have x4 : Ex wr w4 := hst
  replace BJ := Hi (Ex.trans BJ.out x4)
  clear x4 hst hS0
  rw [f11, f12]
  clear f11 f12
  clear hJ hall hT
  go_wp2_with fail
  go_roundw
  case rel => exact ⟨true, j + 1, by omega, rfl, by go_num, Hi ⟨fun _ => (by obtain ⟨p, z9, h1, h2⟩ := HBJ.out.1 rfl; exact ⟨p, z9, by omega, h2⟩), fun _ => rfl⟩, BJ⟩
  case measure => simp [intOf]; omega
 obtain ⟨e, he⟩ : ∃ e, e = decide (y.ct = z.ct) := ⟨_, rfl⟩
 have HE := Hi he
 clear he
 have hS0 : ∀ (listed : Array Bool) (f : Nat → Value), (∀ i, listed.getD i false = false) → Ex wr wr.drew := fun _ _ _ => (Below.refl wr.heap.size wr).drew
 obtain ⟨T, hT⟩ : ∃ T : List (Value → Prop), T = [(fun zz => zz = .bool false), (fun zz => zz = .bool false), (fun zz => zz = y.V), (fun zz => zz = .pointer (some ⟨P, 0, none⟩)), (fun zz => zz = .pointer (some ⟨P, 0, none⟩)), (fun zz => zz = .pointer (some ⟨P, 0, none⟩)), (fun zz => zz = .slice (some ⟨ab2, ofs2, none⟩) m cap3), (fun zz => zz = .int .i64 (j : Int)), (fun zz => zz = .pointer (some ⟨ab2, ofs2 + j * 42, none⟩)), (fun zz => zz = z.V), (fun zz => zz = .bool e), (fun zz => zz = .bool e), (fun zz => zz = .bool e)] := ⟨_, rfl⟩
 refine wp_region_gen (JS T ([] : List (Nat × Nat)) (fun _ _ wq => Ex wr wq)) (by kernel_rfl) (by kernel_rfl) (by kernel_rfl) (fitB_spec (by kernel_rfl)) (fun listed f h => JS.start listed f h (hS0 listed f h)) ?_ ?_
 ·intro i o ho
  have hi : i < 13 := (Array.getElem?_eq_some_iff.1 ho).1
  have hi' : i = 0 ∨ i = 1 ∨ i = 2 ∨ i = 3 ∨ i = 4 ∨ i = 5 ∨ i = 6 ∨ i = 7 ∨ i = 8 ∨ i = 9 ∨ i = 10 ∨ i = 11 ∨ i = 12 := by omega
  clear hi
  rcases hi' with rfl | rfl | rfl | rfl | rfl | rfl | rfl | rfl | rfl | rfl | rfl | rfl | rfl
  all_goals (simp only [List.getElem?_toArray, List.getElem?_cons_zero, List.getElem?_cons_succ, Option.some.injEq] at ho; subst ho; intro listed f a w4 hJ hsz hls hun hdep hout hlat; first | (rw [if_pos (by rfl)]; intro K hK) | skip)
  ·have q10 := hlat 10 12 _ rfl rfl ⟨⟨0, .phase⟩, by simp, rfl, rfl⟩
   refine wp_mv _ rfl (hK _ _ ?_)
   rw [show a.eval (.tmp 10) = .bool false from q10]
   exact hJ.nx hls hT rfl rfl hJ.st (no_head rfl)
  ·have q79 := hJ.is hT (hdep ⟨0, .data⟩ (by simp) rfl) rfl _ rfl _ rfl
   refine wp_mv _ rfl (hK _ _ ?_)
   rw [show a.eval (.tmp 79) = .bool false from q79]
   exact hJ.nx hls hT rfl rfl hJ.st (no_head rfl)
  ·have kg := hJ.is hT (hdep ⟨1, .guard⟩ (by simp) rfl) rfl _ rfl _ rfl
   rw [if_pos (wanted_of rfl rfl rfl kg)]
   clear kg
   intro K hK
   have q9 := hout 9 (outB_spec (by kernel_rfl))
   exact ld_v _ g y rfl q9 (HDJ.out.ext hJ.st) (hK _ _ (hJ.nx hls hT rfl rfl hJ.st (no_head rfl)))
  ·have kg := hJ.is hT (hdep ⟨1, .guard⟩ (by simp) rfl) rfl _ rfl _ rfl
   rw [if_pos (wanted_of rfl rfl rfl kg)]
   clear kg
   intro K hK
   have q3 := hout 3 (outB_spec (by kernel_rfl))
   refine wp_mv _ rfl (hK _ _ ?_)
   rw [show a.eval (.tmp 3) = .pointer (some ⟨P, 0, none⟩) from q3]
   exact hJ.nx hls hT rfl rfl hJ.st (no_head rfl)
  ·have kg := hJ.is hT (hdep ⟨1, .guard⟩ (by simp) rfl) rfl _ rfl _ rfl
   rw [if_pos (wanted_of rfl rfl rfl kg)]
   clear kg
   intro K hK
   have q82 := hJ.iq hT (hdep ⟨3, .data⟩ (by simp) rfl) rfl _ rfl _ rfl
   clear hsz hdep hout hlat
   go_simp
   exact hK _ _ (hJ.nx hls hT rfl rfl hJ.st (no_head rfl))
  ·have kg := hJ.is hT (hdep ⟨1, .guard⟩ (by simp) rfl) rfl _ rfl _ rfl
   rw [if_pos (wanted_of rfl rfl rfl kg)]
   clear kg
   intro K hK
   have q83 := hJ.iq hT (hdep ⟨4, .data⟩ (by simp) rfl) rfl _ rfl _ rfl
   clear hsz hdep hout hlat
   go_simp
   exact hK _ _ (hJ.nx hls hT rfl rfl hJ.st (no_head rfl))
  ·have kg := hJ.is hT (hdep ⟨1, .guard⟩ (by simp) rfl) rfl _ rfl _ rfl
   rw [if_pos (wanted_of rfl rfl rfl kg)]
   clear kg
   intro K hK
   have q84 := hJ.iq hT (hdep ⟨5, .data⟩ (by simp) rfl) rfl _ rfl _ rfl
   have cc : w4.cell? ⟨P, 0, none⟩ = some (.slice (some ⟨ab2, ofs2, none⟩) m cap3) := by rw [((PBJ.out.blk).ext hJ.st).cell, HERV.out, ← HM.out]; rfl
   clear hsz hdep hout hlat
   go_simp
   exact hK _ _ (hJ.nx hls hT rfl rfl hJ.st (no_head rfl))
  ·have kg := hJ.is hT (hdep ⟨1, .guard⟩ (by simp) rfl) rfl _ rfl _ rfl
   rw [if_pos (wanted_of rfl rfl rfl kg)]
   clear kg
   intro K hK
   have q11 := hout 11 (outB_spec (by kernel_rfl))
   refine wp_mv _ rfl (hK _ _ ?_)
   rw [show a.eval (.tmp 11) = .int .i64 (j : Int) from q11]
   exact hJ.nx hls hT rfl rfl hJ.st (no_head rfl)
  ·have kg := hJ.is hT (hdep ⟨1, .guard⟩ (by simp) rfl) rfl _ rfl _ rfl
   rw [if_pos (wanted_of rfl rfl rfl kg)]
   clear kg
   intro K hK
   have q85 := hJ.iq hT (hdep ⟨6, .data⟩ (by simp) rfl) rfl _ rfl _ rfl
   have q86 := hJ.iq hT (hdep ⟨7, .data⟩ (by simp) rfl) rfl _ rfl _ rfl
   clear hsz hdep hout hlat
   go_simp
   exact hK _ _ (hJ.nx hls hT rfl rfl hJ.st (no_head rfl))
  ·have kg := hJ.is hT (hdep ⟨1, .guard⟩ (by simp) rfl) rfl _ rfl _ rfl
   rw [if_pos (wanted_of rfl rfl rfl kg)]
   clear kg
   intro K hK
   have q87 := hJ.is hT (hdep ⟨8, .data⟩ (by simp) rfl) rfl _ rfl _ rfl
   exact ld_vr _ ab2 (ofs2 + j * 42) z ZI.out.ok rfl q87 (range_ex ZR.out hJ.st HAB2.out) (hK _ _ (hJ.nx hls hT rfl rfl hJ.st (no_head rfl)))
  ·have kg := hJ.is hT (hdep ⟨1, .guard⟩ (by simp) rfl) rfl _ rfl _ rfl
   rw [if_pos (wanted_of rfl rfl rfl kg)]
   clear kg
   intro K hK
   have q81 := hJ.iq hT (hdep ⟨2, .data⟩ (by simp) rfl) rfl _ rfl _ rfl
   have q88 := hJ.iq hT (hdep ⟨9, .data⟩ (by simp) rfl) rfl _ rfl _ rfl
   have hst := hJ.st
   clear hsz hdep hout hlat
   go_simp
   refine (rsame_any y z w4 (YJ.out.ext hst) (ZI.out.ext hst)).mono ?_
   rintro e9 wq ⟨rfl, xq⟩
   exact hK _ _ (hJ.nx hls hT rfl (by exact congrArg Value.bool HE.out.symm) (Ex.trans hst xq) (no_head rfl))
  ·have q80 := hJ.iq hT (hdep ⟨1, .data⟩ (by simp) rfl) rfl _ rfl _ rfl
   have q89 := hJ.iq hT (hdep ⟨10, .data⟩ (by simp) rfl) rfl _ rfl _ rfl
   clear hsz hdep hout hlat
   go_simp
   exact hK _ _ (hJ.nx hls hT rfl rfl hJ.st (no_head rfl))
  have q90 := hJ.iq hT (hdep ⟨11, .data⟩ (by simp) rfl) rfl _ rfl _ rfl
  clear hsz hdep hout hlat
  go_simp
  exact hK _ _ (hJ.nx hls hT rfl rfl hJ.st (no_head rfl))
 intro listed f w4 hall hJ
 have f11 : f 11 = .bool e := by
  have h := hJ.vals 11 (hall 11 (by simp))
  rw [hT] at h; exact h
 have f12 : f 12 = .bool e := by
  have h := hJ.vals 12 (hall 12 (by simp))
  rw [hT] at h; exact h
 have hst := hJ.st
 simp only [putAll, Act.put, List.setIfInBounds_toArray, List.set_cons_zero, List.set_cons_succ, Nat.zero_add, Nat.reduceAdd]
 have x4 : Ex wr w4 := hst
 replace BJ := Hi (Ex.trans BJ.out x4)
 clear x4 hst hS0
 rw [f11, f12]
 clear f11 f12
 clear hJ hall hT
 go_wp2_with fail
 go_roundw
 case rel => exact ⟨e, j + 1, by omega, rfl, by go_num, Hi (nextp HBJ.out HZ.out HE.out), BJ⟩
 case measure => simp [intOf]; omega
end Go.Proofs.Ytmjfnpmnhehnkaa
