/- Ti, Uj -/
import Derived.Test.YtmjfnpmnhehnkaaQao
set_option maxRecDepth 100000
set_option maxHeartbeats 16000000
namespace Go.Proofs.Ytmjfnpmnhehnkaa
open Go.RowKit
structure Kv where
 id : Int
 pin : Int
 own : Int
 lim : Int
 used : Int
 how : Int
 gen : Int
 sec : Pt
def Kv.C (x : Kv) : List Value := [.int .i64 x.id, .int .i64 x.pin, .int .i64 x.own, .int .i64 x.lim, .int .i64 x.used, .int .i64 x.how, .int .u64 x.gen, x.sec.V]
def Kv.V (x : Kv) : Value := .agg x.C.toArray
structure Kv.In (x : Kv) (w : World) : Prop where
 id : i64 x.id
 pin : i64 x.pin
 own : i64 x.own
 lim : i64 x.lim
 used : i64 x.used
 how : i64 x.how
 gen0 : 0 ≤ x.gen
 gen1 : x.gen < 18446744073709551616
 sec : x.sec.In w w.heap.size
 sz : x.sec.l.length ≤ 9223372036854775807
theorem Kv.In.ext {x : Kv} {w w' : World} (h : x.In w) (k : Ex w w') : x.In w' := { h with sec := h.sec.ext k }
def KvB (w : World) (g : Nat) (x : Kv) : Prop := Bk w g 27 x.C.toArray
theorem KvB.ext {w w' : World} {g : Nat} {x : Kv} (h : KvB w g x) (k : Ex w w') : KvB w' g x := Bk.ext h k
theorem KvB.cells {w : World} {g : Nat} {x : Kv} (h : KvB w g x) : w.cell? ⟨g, 0, none⟩ = some (.int .i64 x.id) ∧ w.cell? ⟨g, 1, none⟩ = some (.int .i64 x.pin) ∧ w.cell? ⟨g, 2, none⟩ = some (.int .i64 x.own) ∧ w.cell? ⟨g, 3, none⟩ = some (.int .i64 x.lim) ∧ w.cell? ⟨g, 4, none⟩ = some (.int .i64 x.used) ∧ w.cell? ⟨g, 5, none⟩ = some (.int .i64 x.how) ∧ w.cell? ⟨g, 6, none⟩ = some (.int .u64 x.gen) ∧ w.cell? ⟨g, 7, none⟩ = some (.slice x.sec.ad x.sec.l.length x.sec.cap) :=
 ⟨(Bk.cell h 0).trans rfl, (Bk.cell h 1).trans rfl, (Bk.cell h 2).trans rfl, (Bk.cell h 3).trans rfl, (Bk.cell h 4).trans rfl, (Bk.cell h 5).trans rfl, (Bk.cell h 6).trans rfl, (Bk.cell h 7).trans rfl⟩
def KvPost (id : List UInt8) (w : World) (e : Ending) (w' : World) : Prop := ∃ v : Vt, e = .returned v.V ∧ TVN w' v ∧ v.id = id ∧ v.ct.right = true ∧ Ex w w'
theorem built_kv (id pin own : List UInt8) (gen lim used : Int) (p : Pt) (h1 : id.length = 4) (h2 : pin.length = 16) (h3 : own.length = 16) : Try.prog.built 36 [(0, digV id), (1, .int .u64 gen), (2, digV pin), (6, digV own), (4, .int .i64 lim), (5, .int .i64 used), (3, p.V)] = some (Vt.mk id gen pin p lim used own false false).C.toArray := by
 obtain ⟨a, b, c, d, rfl⟩ := len4 h1
 obtain ⟨_, _, _, _, _, _, _, _, _, _, _, _, _, _, _, _, rfl⟩ := len16 h2
 obtain ⟨_, _, _, _, _, _, _, _, _, _, _, _, _, _, _, _, rfl⟩ := len16 h3
 kernel_rfl
theorem goneVt_right {id : List UInt8} {gen : Int} {wi : Bool} (g0 : 1 ≤ gen) (g1 : gen ≤ 1099511627776) : (goneVt id gen wi).ct.right = true := by
 unfold Vc.right
 rw [if_pos (show (goneVt id gen wi).ct.gone = true from rfl), Bool.and_eq_true]
 exact ⟨decide_eq_true ⟨g0, g1⟩, decide_eq_true rfl⟩
theorem kv_right {id pin own : List UInt8} {gen lim used : Int} {p : Pt} (g0 : 1 ≤ gen) (g1 : gen ≤ 1099511627776) (l0 : 1 ≤ lim) (l1 : lim ≤ 32) (u0 : 0 ≤ used) (u1 : used < lim) (hp : p.l.length ≤ 64) : (Vt.mk id gen pin p lim used own false false).ct.right = true := by
 unfold Vc.right
 rw [if_neg (by show ¬ (false = true); decide)]
 simp only [Bool.and_eq_true, decide_eq_true_eq]
 exact ⟨⟨g0, g1⟩, ⟨⟨⟨rfl, l0, l1⟩, u0⟩, u1⟩, hp⟩
theorem kv_any (x : Kv) (id : List UInt8) (hid : id.length = 4) (w : World) (hx : x.In w) : Calls Try.prog 31 #[x.V, digV id] w (KvPost id w) := by
 have HX := Hi hx
 have HID := Hi hid
 have CL := Hi (fun w1 => within_any x.lim 1 32 hx.lim (by omega) (by omega) (by omega) w1)
 have CU := Hi (fun (m : Int) (h0 : 1 ≤ m) (h1 : m ≤ 32) w1 => within_any x.used 0 (m - 1) hx.used (by omega) (by omega) (by omega) w1)
 have CP := Hi (fun w1 => d_any x.pin hx.pin w1)
 have CO := Hi (fun w1 => d_any x.own hx.own w1)
 have CX := Hi (fun w1 (k : Ex w w1) => cut_any x.sec 64 (by omega) (by omega) hx.sz w1 (hx.ext k).sec)
 obtain ⟨gen, hgen⟩ : ∃ gen, gen = 1 + x.gen % 1099511627776 := ⟨_, rfl⟩
 have tm := Int.tmod_eq_emod_of_nonneg hx.gen0 (b := 1099511627776)
 have t0 := Int.emod_nonneg x.gen (show (1099511627776 : Int) ≠ 0 by decide)
 have t1 := Int.emod_lt_of_pos x.gen (show (0 : Int) < 1099511627776 by decide)
 have HG : Hid (1 ≤ gen ∧ gen ≤ 1099511627776) := Hi (by omega)
 have h40 := hx.how.1
 have h41 := hx.how.2
 obtain ⟨cs, hcs⟩ : ∃ cs, cs = x.C.toArray := ⟨_, rfl⟩
 obtain ⟨ds, hds⟩ : ∃ ds, ds = (Lib.byteCells id).toArray := ⟨_, rfl⟩
 have A0 : Hid (KvB (((w.alloc (.cells cs 27)).alloc (.cells ds 32)).alloc (.cells zeroVt.C.toArray 36)) w.heap.size x) := Hi (by rw [hcs]; exact ((Bk.new rfl _ _).more _).more _)
 have D0 : Hid (Bk (((w.alloc (.cells cs 27)).alloc (.cells ds 32)).alloc (.cells zeroVt.C.toArray 36)) (w.heap.size + 1) 32 (Lib.byteCells id).toArray) := Hi (by rw [hds]; exact (Bk.new (by simp) _ _).more _)
 have Z0 : Hid (VB (((w.alloc (.cells cs 27)).alloc (.cells ds 32)).alloc (.cells zeroVt.C.toArray 36)) (w.heap.size + 2) zeroVt) := Hi ⟨zeroVt_ok, Bk.new (by simp) _ _⟩
 have BW : Hid (Ex w (((w.alloc (.cells cs 27)).alloc (.cells ds 32)).alloc (.cells zeroVt.C.toArray 36))) := Hi (Ex.trans (Ex.trans (Ex.alloc w _) (Ex.alloc _ _)) (Ex.alloc _ _))
 rw [show (Calls Try.prog 31 #[x.V, digV id] w) = (Calls Try.prog 31 #[.agg cs, .agg ds] w) by rw [hcs, hds]; rfl]
 clear hcs hds hx hid
 have GE := Hi hgen
 clear hgen
 by_cases h3 : x.how.tmod 4 = 3
 ·go_enter Try.func31, Try.ntmps31
  go_wp2_with (first | (with_reducible refine stop_load (t := 24) ?_) | (with_reducible refine stop_load (t := 36) ?_) | (with_reducible refine stop_store (t := 36) ?_) | (with_reducible refine stop_load (t := 32) ?_) | (with_reducible refine stop_store (t := 32) ?_) | (with_reducible refine stop_build (t := 36) ?_) | (with_reducible refine stop_bs (t := 37) ?_) | (with_reducible refine stop_app ?_))
  (with_reducible refine ⟨?_⟩)
  change wpList _ _ _ _ _ (((w.alloc (.cells cs 27)).alloc (.cells ds 32)).alloc (.cells zeroVt.C.toArray 36))
  generalize hw1 : (((w.alloc (.cells cs 27)).alloc (.cells ds 32)).alloc (.cells zeroVt.C.toArray 36)) = w1 at *
  clear hw1
  obtain ⟨B, hB⟩ : ∃ B, B = w.heap.size := ⟨_, rfl⟩
  rw [← hB] at A0 D0 Z0 ⊢
  have HB := Hi hB
  clear hB
  obtain ⟨k0, k1, k2, k3, k4, k5, k6, k7⟩ := A0.out.cells
  go_wp2_with (first | (with_reducible refine stop_load (t := 36) ?_) | (with_reducible refine stop_store (t := 36) ?_) | (with_reducible refine stop_load (t := 32) ?_) | (with_reducible refine stop_store (t := 32) ?_) | (with_reducible refine stop_build (t := 36) ?_) | (with_reducible refine stop_bs (t := 37) ?_) | (with_reducible refine stop_app ?_))
  refine at9 (by go_simp) fun K0 hK => ld_idb _ (B + 1) id HID.out rfl rfl D0.out (hK _ _ ?_)
  clear hK
  go_wp2_with (first | (with_reducible refine stop_load (t := 36) ?_) | (with_reducible refine stop_store (t := 36) ?_) | (with_reducible refine stop_load (t := 32) ?_) | (with_reducible refine stop_store (t := 32) ?_) | (with_reducible refine stop_build (t := 36) ?_) | (with_reducible refine stop_bs (t := 37) ?_) | (with_reducible refine stop_app ?_))
  rw [← GE.out]
  refine at9 (by go_simp) fun K0 hK => wp_build _ _ rfl _ (built_gone id gen _ HID.out) (hK _ _ ?_)
  clear hK
  go_wp2_with (first | (with_reducible refine stop_load (t := 36) ?_) | (with_reducible refine stop_store (t := 36) ?_) | (with_reducible refine stop_load (t := 32) ?_) | (with_reducible refine stop_store (t := 32) ?_) | (with_reducible refine stop_build (t := 36) ?_) | (with_reducible refine stop_bs (t := 37) ?_) | (with_reducible refine stop_app ?_))
  generalize ((x.how.tdiv 4).tmod 2 == 1) = wi
  refine at9 (by go_simp) fun K0 hK => st_v _ _ (B + 2) (goneVt id gen wi) rfl rfl rfl (goneVt_ok HID.out (by have := HG.out.1; omega) (by have := HG.out.2; omega)) Z0.out.2 (by rfl) (fun w2 hd ho => hK _ _ ?_)
  clear hK
  have BX := Hi (ho.below w.heap.size (by have := HB.out; omega) w BW.out)
  have HD := Hi hd
  clear hd ho
  go_wp2_with fail
  exact bodyPost_ret (res_v rfl _ _ (B + 2) rfl (goneVt id gen wi) HD.out) rfl ⟨goneVt id gen wi, rfl, ⟨HD.out.1, nilB_pn _ _, Nat.zero_le _⟩, rfl, goneVt_right HG.out.1 HG.out.2, BX.out⟩
 go_enter Try.func31, Try.ntmps31
 go_wp2_with (first | (with_reducible refine stop_load (t := 24) ?_) | (with_reducible refine stop_load (t := 36) ?_) | (with_reducible refine stop_store (t := 36) ?_) | (with_reducible refine stop_load (t := 32) ?_) | (with_reducible refine stop_store (t := 32) ?_) | (with_reducible refine stop_build (t := 36) ?_) | (with_reducible refine stop_bs (t := 37) ?_) | (with_reducible refine stop_app ?_))
 (with_reducible refine ⟨?_⟩)
 change wpList _ _ _ _ _ (((w.alloc (.cells cs 27)).alloc (.cells ds 32)).alloc (.cells zeroVt.C.toArray 36))
 generalize hw1 : (((w.alloc (.cells cs 27)).alloc (.cells ds 32)).alloc (.cells zeroVt.C.toArray 36)) = w1 at *
 clear hw1
 obtain ⟨B, hB⟩ : ∃ B, B = w.heap.size := ⟨_, rfl⟩
 rw [← hB] at A0 D0 Z0 ⊢
 have HB := Hi hB
 clear hB
 obtain ⟨k0, k1, k2, k3, k4, k5, k6, k7⟩ := A0.out.cells
 go_wp2_with (first | (with_reducible refine stop_load (t := 36) ?_) | (with_reducible refine stop_store (t := 36) ?_) | (with_reducible refine stop_load (t := 32) ?_) | (with_reducible refine stop_store (t := 32) ?_) | (with_reducible refine stop_build (t := 36) ?_) | (with_reducible refine stop_bs (t := 37) ?_) | (with_reducible refine stop_app ?_))
 refine (CL.out w1).mono ?_
 rintro e w2 ⟨lim, rfl, l0, l1, rfl⟩
 have HL := Hi (And.intro l0 l1)
 clear k0 k1 k2 k3 k4 k5 k6 k7 tm t0 t1 CL
 go_wp2_with (first | (with_reducible refine stop_load (t := 36) ?_) | (with_reducible refine stop_store (t := 36) ?_) | (with_reducible refine stop_load (t := 32) ?_) | (with_reducible refine stop_store (t := 32) ?_) | (with_reducible refine stop_build (t := 36) ?_) | (with_reducible refine stop_bs (t := 37) ?_) | (with_reducible refine stop_app ?_))
 rw [← GE.out]
 clear h40 h41 h3
 obtain ⟨T, hT⟩ : ∃ T : List Sx, T = [.is (digV id), .is (.int .u64 gen), .is (.pointer (some ⟨B, 1, none⟩)), .is (.int .i64 x.pin), .of (fun v _ => ∃ d : List UInt8, v = digV d ∧ d.length = 16) (fun v _ _ h _ => h), .is (.pointer (some ⟨B, 2, none⟩)), .is (.int .i64 x.own), .of (fun v _ => ∃ d : List UInt8, v = digV d ∧ d.length = 16) (fun v _ _ h _ => h), .is (.int .i64 lim), .is (.pointer (some ⟨B, 4, none⟩)), .is (.int .i64 x.used), .is (.int .i64 lim), .is (.int .i64 (lim - 1)), .of (fun v _ => ∃ u : Int, v = .int .i64 u ∧ 0 ≤ u ∧ u < lim) (fun v _ _ h _ => h), .of (fun v w9 => ∃ g, v = .slice (some ⟨g, 0, none⟩) 0 0 ∧ B + 3 ≤ g ∧ Bk w9 g 5 #[]) (fun v _ _ h k => by obtain ⟨g, h1, h2, h3⟩ := h; exact ⟨g, h1, h2, h3.ext k⟩), .is (.pointer (some ⟨B, 7, none⟩)), .is (.slice x.sec.ad x.sec.l.length x.sec.cap), .is (Pt.V ⟨x.sec.ad, x.sec.cap, x.sec.l.take 64⟩), .of (fun v w9 => ∃ p : Pt, v = p.V ∧ p.l = x.sec.l.take 64 ∧ PN w9 (B + 3) p) (fun v _ _ h k => by obtain ⟨p, h1, h2, h3⟩ := h; exact ⟨p, h1, h2, h3.ext k⟩), .of (fun v w9 => ∃ y : Vt, v = y.V ∧ TVN w9 y ∧ y.id = id ∧ y.ct.right = true) (fun v _ _ h k => by obtain ⟨p, h1, h2, h3⟩ := h; exact ⟨p, h1, h2.ext k, h3⟩), .any] := ⟨_, rfl⟩
 have HFX : T.map Sx.fixed = [true, true, true, true, false, true, true, false, true, true, true, true, true, false, false, true, true, true, false, false, true] := by rw [hT]; rfl
 have hFst : ∀ wa wb, (fun w9 => ∃ y : Vt, VB w9 (B + 2) y ∧ TVN w9 y ∧ y.id = id ∧ y.ct.right = true ∧ Ex w w9) wa → Ex wa wb → (fun w9 => ∃ y : Vt, VB w9 (B + 2) y ∧ TVN w9 y ∧ y.id = id ∧ y.ct.right = true ∧ Ex w w9) wb := fun _ _ h k => by obtain ⟨y, h1, h2, h3, h4, h5⟩ := h; exact ⟨y, h1.ext k, h2.ext k, h3, h4, Ex.trans h5 k⟩
 refine wp_region_gen (JE w1 T ([none, none, none, none, some 19, none, none, some 19, none, none, none, none, none, some 19, some 18, none, none, none, some 19, some 20, none] : List (Option Nat)) ([(20, 0), (20, 3), (20, 6), (20, 10), (20, 14), (20, 16), (20, 17), (20, 18)] : List (Nat × Nat)) 20 20 (fun w9 => ∃ y : Vt, VB w9 (B + 2) y ∧ TVN w9 y ∧ y.id = id ∧ y.ct.right = true ∧ Ex w w9)) (by kernel_rfl) (by kernel_rfl) (by kernel_rfl) (fitB_spec (by kernel_rfl)) (fun listed f h => JE.start listed f h) ?_ ?_
 ·intro i o ho
  have hi : i < 21 := (Array.getElem?_eq_some_iff.1 ho).1
  have hi' : i = 0 ∨ i = 1 ∨ i = 2 ∨ i = 3 ∨ i = 4 ∨ i = 5 ∨ i = 6 ∨ i = 7 ∨ i = 8 ∨ i = 9 ∨ i = 10 ∨ i = 11 ∨ i = 12 ∨ i = 13 ∨ i = 14 ∨ i = 15 ∨ i = 16 ∨ i = 17 ∨ i = 18 ∨ i = 19 ∨ i = 20 := by omega
  clear hi
  rcases hi' with rfl | rfl | rfl | rfl | rfl | rfl | rfl | rfl | rfl | rfl | rfl | rfl | rfl | rfl | rfl | rfl | rfl | rfl | rfl | rfl | rfl
  all_goals (simp only [List.getElem?_toArray, List.getElem?_cons_zero, List.getElem?_cons_succ, Option.some.injEq] at ho; subst ho; intro listed f a w2 hJ hsz hls hun hdep hout hlat; first | (rw [if_pos (by rfl)]; intro K hK) | skip)
  ·have q3 := hout 3 ob
   have hord : ∀ x ∈ ([(20, 0), (20, 3), (20, 6), (20, 10), (20, 14), (20, 16), (20, 17), (20, 18)] : List (Nat × Nat)), x.1 = 0 → listed.getD x.2 false = true := (by intro x hx he; simp only [List.mem_cons, List.not_mem_nil, or_false] at hx; rcases hx with rfl | rfl | rfl | rfl | rfl | rfl | rfl | rfl; all_goals first | (exact absurd he (by decide)) | assumption)
   have hcut : listed.getD 20 false = false := by
    cases hc : listed.getD 20 false with
    | false => rfl
    | true =>
     have hc0 := hJ.ord (20, 0) (by simp) hc
     exact absurd hc0 (by rw [hun]; decide)
   have hpre := hJ.pre hcut
   exact ld_idb (.tmp 3) (B + 1) id HID.out rfl q3 (D0.out.ext hpre) (hK _ _ (hJ.plain (by rw [hls]; decide) hFst (by decide) (Ex.refl _) (by rw [hT]; rfl) hord))
  ·have q5 := hout 5 ob
   have hord : ∀ x ∈ ([(20, 0), (20, 3), (20, 6), (20, 10), (20, 14), (20, 16), (20, 17), (20, 18)] : List (Nat × Nat)), x.1 = 1 → listed.getD x.2 false = true := (by intro x hx he; simp only [List.mem_cons, List.not_mem_nil, or_false] at hx; rcases hx with rfl | rfl | rfl | rfl | rfl | rfl | rfl | rfl; all_goals first | (exact absurd he (by decide)) | assumption)
   exact wp_mw _ rfl q5 (hK _ _ (hJ.plain (by rw [hls]; decide) hFst (by decide) (Ex.refl _) (by rw [hT]; rfl) hord))
  ·have q2 := hout 2 ob
   have hord : ∀ x ∈ ([(20, 0), (20, 3), (20, 6), (20, 10), (20, 14), (20, 16), (20, 17), (20, 18)] : List (Nat × Nat)), x.1 = 2 → listed.getD x.2 false = true := (by intro x hx he; simp only [List.mem_cons, List.not_mem_nil, or_false] at hx; rcases hx with rfl | rfl | rfl | rfl | rfl | rfl | rfl | rfl; all_goals first | (exact absurd he (by decide)) | assumption)
   rw [gd9] at q2
   clear hsz hdep hout hlat
   go_simp
   exact hK _ _ (hJ.plain (by rw [hls]; decide) hFst (by decide) (Ex.refl _) (by rw [hT]; first | rfl | exact int_eq (by omega) | exact int_eq (by rw [IntKind.wrap_i64]; omega)) hord)
  ·have q28 := hJ.iw hT (hdep ⟨2, .data⟩ (by simp) rfl) rfl rfl _ rfl _ rfl
   have hord : ∀ x ∈ ([(20, 0), (20, 3), (20, 6), (20, 10), (20, 14), (20, 16), (20, 17), (20, 18)] : List (Nat × Nat)), x.1 = 3 → listed.getD x.2 false = true := (by intro x hx he; simp only [List.mem_cons, List.not_mem_nil, or_false] at hx; rcases hx with rfl | rfl | rfl | rfl | rfl | rfl | rfl | rfl; all_goals first | (exact absurd he (by decide)) | assumption)
   have hcut : listed.getD 20 false = false := by
    cases hc : listed.getD 20 false with
    | false => rfl
    | true =>
     have hc0 := hJ.ord (20, 3) (by simp) hc
     exact absurd hc0 (by rw [hun]; decide)
   have hpre := hJ.pre hcut
   have c1 := (A0.out.ext hpre).cells.2.1
   rw [gd9] at q28
   clear hsz hdep hout hlat
   go_simp
   exact hK _ _ (hJ.plain (by rw [hls]; decide) hFst (by decide) (Ex.refl _) (by rw [hT]; rfl) hord)
  ·have q29 := hJ.iw hT (hdep ⟨3, .data⟩ (by simp) rfl) rfl rfl _ rfl _ rfl
   have hord : ∀ x ∈ ([(20, 0), (20, 3), (20, 6), (20, 10), (20, 14), (20, 16), (20, 17), (20, 18)] : List (Nat × Nat)), x.1 = 4 → listed.getD x.2 false = true := (by intro x hx he; simp only [List.mem_cons, List.not_mem_nil, or_false] at hx; rcases hx with rfl | rfl | rfl | rfl | rfl | rfl | rfl | rfl; all_goals first | (exact absurd he (by decide)) | assumption)
   rw [gd9] at q29
   clear hsz hdep hout hlat
   go_simp
   refine (CP.out w2).mono ?_
   rintro e w3 ⟨d, rfl, h1, x3⟩
   exact hK _ _ (hJ.plain (by rw [hls]; decide) hFst (by decide) x3 (by rw [hT]; exact ⟨d, rfl, h1⟩) hord)
  ·have q2 := hout 2 ob
   have hord : ∀ x ∈ ([(20, 0), (20, 3), (20, 6), (20, 10), (20, 14), (20, 16), (20, 17), (20, 18)] : List (Nat × Nat)), x.1 = 5 → listed.getD x.2 false = true := (by intro x hx he; simp only [List.mem_cons, List.not_mem_nil, or_false] at hx; rcases hx with rfl | rfl | rfl | rfl | rfl | rfl | rfl | rfl; all_goals first | (exact absurd he (by decide)) | assumption)
   rw [gd9] at q2
   clear hsz hdep hout hlat
   go_simp
   exact hK _ _ (hJ.plain (by rw [hls]; decide) hFst (by decide) (Ex.refl _) (by rw [hT]; first | rfl | exact int_eq (by omega) | exact int_eq (by rw [IntKind.wrap_i64]; omega)) hord)
  ·have q31 := hJ.iw hT (hdep ⟨5, .data⟩ (by simp) rfl) rfl rfl _ rfl _ rfl
   have hord : ∀ x ∈ ([(20, 0), (20, 3), (20, 6), (20, 10), (20, 14), (20, 16), (20, 17), (20, 18)] : List (Nat × Nat)), x.1 = 6 → listed.getD x.2 false = true := (by intro x hx he; simp only [List.mem_cons, List.not_mem_nil, or_false] at hx; rcases hx with rfl | rfl | rfl | rfl | rfl | rfl | rfl | rfl; all_goals first | (exact absurd he (by decide)) | assumption)
   have hcut : listed.getD 20 false = false := by
    cases hc : listed.getD 20 false with
    | false => rfl
    | true =>
     have hc0 := hJ.ord (20, 6) (by simp) hc
     exact absurd hc0 (by rw [hun]; decide)
   have hpre := hJ.pre hcut
   have c1 := (A0.out.ext hpre).cells.2.2.1
   rw [gd9] at q31
   clear hsz hdep hout hlat
   go_simp
   exact hK _ _ (hJ.plain (by rw [hls]; decide) hFst (by decide) (Ex.refl _) (by rw [hT]; rfl) hord)
  ·have q32 := hJ.iw hT (hdep ⟨6, .data⟩ (by simp) rfl) rfl rfl _ rfl _ rfl
   have hord : ∀ x ∈ ([(20, 0), (20, 3), (20, 6), (20, 10), (20, 14), (20, 16), (20, 17), (20, 18)] : List (Nat × Nat)), x.1 = 7 → listed.getD x.2 false = true := (by intro x hx he; simp only [List.mem_cons, List.not_mem_nil, or_false] at hx; rcases hx with rfl | rfl | rfl | rfl | rfl | rfl | rfl | rfl; all_goals first | (exact absurd he (by decide)) | assumption)
   rw [gd9] at q32
   clear hsz hdep hout hlat
   go_simp
   refine (CO.out w2).mono ?_
   rintro e w3 ⟨d, rfl, h1, x3⟩
   exact hK _ _ (hJ.plain (by rw [hls]; decide) hFst (by decide) x3 (by rw [hT]; exact ⟨d, rfl, h1⟩) hord)
  ·have q6 := hout 6 ob
   have hord : ∀ x ∈ ([(20, 0), (20, 3), (20, 6), (20, 10), (20, 14), (20, 16), (20, 17), (20, 18)] : List (Nat × Nat)), x.1 = 8 → listed.getD x.2 false = true := (by intro x hx he; simp only [List.mem_cons, List.not_mem_nil, or_false] at hx; rcases hx with rfl | rfl | rfl | rfl | rfl | rfl | rfl | rfl; all_goals first | (exact absurd he (by decide)) | assumption)
   exact wp_mw _ rfl q6 (hK _ _ (hJ.plain (by rw [hls]; decide) hFst (by decide) (Ex.refl _) (by rw [hT]; rfl) hord))
  ·have q2 := hout 2 ob
   have hord : ∀ x ∈ ([(20, 0), (20, 3), (20, 6), (20, 10), (20, 14), (20, 16), (20, 17), (20, 18)] : List (Nat × Nat)), x.1 = 9 → listed.getD x.2 false = true := (by intro x hx he; simp only [List.mem_cons, List.not_mem_nil, or_false] at hx; rcases hx with rfl | rfl | rfl | rfl | rfl | rfl | rfl | rfl; all_goals first | (exact absurd he (by decide)) | assumption)
   rw [gd9] at q2
   clear hsz hdep hout hlat
   go_simp
   exact hK _ _ (hJ.plain (by rw [hls]; decide) hFst (by decide) (Ex.refl _) (by rw [hT]; first | rfl | exact int_eq (by omega) | exact int_eq (by rw [IntKind.wrap_i64]; omega)) hord)
  ·have q35 := hJ.iw hT (hdep ⟨9, .data⟩ (by simp) rfl) rfl rfl _ rfl _ rfl
   have hord : ∀ x ∈ ([(20, 0), (20, 3), (20, 6), (20, 10), (20, 14), (20, 16), (20, 17), (20, 18)] : List (Nat × Nat)), x.1 = 10 → listed.getD x.2 false = true := (by intro x hx he; simp only [List.mem_cons, List.not_mem_nil, or_false] at hx; rcases hx with rfl | rfl | rfl | rfl | rfl | rfl | rfl | rfl; all_goals first | (exact absurd he (by decide)) | assumption)
   have hcut : listed.getD 20 false = false := by
    cases hc : listed.getD 20 false with
    | false => rfl
    | true =>
     have hc0 := hJ.ord (20, 10) (by simp) hc
     exact absurd hc0 (by rw [hun]; decide)
   have hpre := hJ.pre hcut
   have c1 := (A0.out.ext hpre).cells.2.2.2.2.1
   rw [gd9] at q35
   clear hsz hdep hout hlat
   go_simp
   exact hK _ _ (hJ.plain (by rw [hls]; decide) hFst (by decide) (Ex.refl _) (by rw [hT]; rfl) hord)
  ·have q6 := hout 6 ob
   have hord : ∀ x ∈ ([(20, 0), (20, 3), (20, 6), (20, 10), (20, 14), (20, 16), (20, 17), (20, 18)] : List (Nat × Nat)), x.1 = 11 → listed.getD x.2 false = true := (by intro x hx he; simp only [List.mem_cons, List.not_mem_nil, or_false] at hx; rcases hx with rfl | rfl | rfl | rfl | rfl | rfl | rfl | rfl; all_goals first | (exact absurd he (by decide)) | assumption)
   exact wp_mw _ rfl q6 (hK _ _ (hJ.plain (by rw [hls]; decide) hFst (by decide) (Ex.refl _) (by rw [hT]; rfl) hord))
  ·have q37 := hJ.iw hT (hdep ⟨11, .data⟩ (by simp) rfl) rfl rfl _ rfl _ rfl
   have hord : ∀ x ∈ ([(20, 0), (20, 3), (20, 6), (20, 10), (20, 14), (20, 16), (20, 17), (20, 18)] : List (Nat × Nat)), x.1 = 12 → listed.getD x.2 false = true := (by intro x hx he; simp only [List.mem_cons, List.not_mem_nil, or_false] at hx; rcases hx with rfl | rfl | rfl | rfl | rfl | rfl | rfl | rfl; all_goals first | (exact absurd he (by decide)) | assumption)
   have l0 := HL.out.1
   have l1 := HL.out.2
   have e1 : IntKind.i64.wrap (lim - 1) = lim - 1 := by rw [IntKind.wrap_i64]; omega
   rw [gd9] at q37
   clear hsz hdep hout hlat
   go_simp
   exact hK _ _ (hJ.plain (by rw [hls]; decide) hFst (by decide) (Ex.refl _) (by rw [hT]; rfl) hord)
  ·have q36 := hJ.iw hT (hdep ⟨10, .data⟩ (by simp) rfl) rfl rfl _ rfl _ rfl
   have q38 := hJ.iw hT (hdep ⟨12, .data⟩ (by simp) rfl) rfl rfl _ rfl _ rfl
   have hord : ∀ x ∈ ([(20, 0), (20, 3), (20, 6), (20, 10), (20, 14), (20, 16), (20, 17), (20, 18)] : List (Nat × Nat)), x.1 = 13 → listed.getD x.2 false = true := (by intro x hx he; simp only [List.mem_cons, List.not_mem_nil, or_false] at hx; rcases hx with rfl | rfl | rfl | rfl | rfl | rfl | rfl | rfl; all_goals first | (exact absurd he (by decide)) | assumption)
   rw [gd9] at q36
   rw [gd9] at q38
   clear hsz hdep hout hlat
   go_simp
   refine (CU.out lim HL.out.1 HL.out.2 w2).mono ?_
   rintro e w3 ⟨m, rfl, h1, h2, rfl⟩
   exact hK _ _ (hJ.plain (by rw [hls]; decide) hFst (by decide) (Ex.refl _) (by rw [hT]; exact ⟨m, rfl, h1, by omega⟩) hord)
  ·have hord : ∀ x ∈ ([(20, 0), (20, 3), (20, 6), (20, 10), (20, 14), (20, 16), (20, 17), (20, 18)] : List (Nat × Nat)), x.1 = 14 → listed.getD x.2 false = true := (by intro x hx he; simp only [List.mem_cons, List.not_mem_nil, or_false] at hx; rcases hx with rfl | rfl | rfl | rfl | rfl | rfl | rfl | rfl; all_goals first | (exact absurd he (by decide)) | assumption)
   have hcut : listed.getD 20 false = false := by
    cases hc : listed.getD 20 false with
    | false => rfl
    | true =>
     have hc0 := hJ.ord (20, 14) (by simp) hc
     exact absurd hc0 (by rw [hun]; decide)
   have hpre := hJ.pre hcut
   have hw2 := hpre.sz'
   have hzl := Z0.out.lt
   clear hsz hdep hout hlat
   go_simp
   exact hK _ _ (hJ.plain (by rw [hls]; decide) hFst (by decide) (Ex.alloc _ _) (by rw [hT]; exact ⟨_, rfl, by omega, Bk.new rfl _ _⟩) hord)
  ·have q2 := hout 2 ob
   have hord : ∀ x ∈ ([(20, 0), (20, 3), (20, 6), (20, 10), (20, 14), (20, 16), (20, 17), (20, 18)] : List (Nat × Nat)), x.1 = 15 → listed.getD x.2 false = true := (by intro x hx he; simp only [List.mem_cons, List.not_mem_nil, or_false] at hx; rcases hx with rfl | rfl | rfl | rfl | rfl | rfl | rfl | rfl; all_goals first | (exact absurd he (by decide)) | assumption)
   rw [gd9] at q2
   clear hsz hdep hout hlat
   go_simp
   exact hK _ _ (hJ.plain (by rw [hls]; decide) hFst (by decide) (Ex.refl _) (by rw [hT]; first | rfl | exact int_eq (by omega) | exact int_eq (by rw [IntKind.wrap_i64]; omega)) hord)
  ·have q41 := hJ.iw hT (hdep ⟨15, .data⟩ (by simp) rfl) rfl rfl _ rfl _ rfl
   have hord : ∀ x ∈ ([(20, 0), (20, 3), (20, 6), (20, 10), (20, 14), (20, 16), (20, 17), (20, 18)] : List (Nat × Nat)), x.1 = 16 → listed.getD x.2 false = true := (by intro x hx he; simp only [List.mem_cons, List.not_mem_nil, or_false] at hx; rcases hx with rfl | rfl | rfl | rfl | rfl | rfl | rfl | rfl; all_goals first | (exact absurd he (by decide)) | assumption)
   have hcut : listed.getD 20 false = false := by
    cases hc : listed.getD 20 false with
    | false => rfl
    | true =>
     have hc0 := hJ.ord (20, 16) (by simp) hc
     exact absurd hc0 (by rw [hun]; decide)
   have hpre := hJ.pre hcut
   have c1 := (A0.out.ext hpre).cells.2.2.2.2.2.2.2
   rw [gd9] at q41
   clear hsz hdep hout hlat
   go_simp
   exact hK _ _ (hJ.plain (by rw [hls]; decide) hFst (by decide) (Ex.refl _) (by rw [hT]; rfl) hord)
  ·have q42 := hJ.iw hT (hdep ⟨16, .data⟩ (by simp) rfl) rfl rfl _ rfl _ rfl
   have hord : ∀ x ∈ ([(20, 0), (20, 3), (20, 6), (20, 10), (20, 14), (20, 16), (20, 17), (20, 18)] : List (Nat × Nat)), x.1 = 17 → listed.getD x.2 false = true := (by intro x hx he; simp only [List.mem_cons, List.not_mem_nil, or_false] at hx; rcases hx with rfl | rfl | rfl | rfl | rfl | rfl | rfl | rfl; all_goals first | (exact absurd he (by decide)) | assumption)
   have hcut : listed.getD 20 false = false := by
    cases hc : listed.getD 20 false with
    | false => rfl
    | true =>
     have hc0 := hJ.ord (20, 17) (by simp) hc
     exact absurd hc0 (by rw [hun]; decide)
   have hpre := hJ.pre hcut
   rw [gd9] at q42
   clear hsz hdep hout hlat
   go_simp
   refine (CX.out w2 (Ex.trans BW.out hpre)).mono ?_
   rintro e w3 ⟨rfl, rfl⟩
   exact hK _ _ (hJ.plain (by rw [hls]; decide) hFst (by decide) (Ex.refl _) (by rw [hT]; rfl) hord)
  ·have dd40 := hdep ⟨14, .data⟩ (by simp) rfl
   have q40 := dd40.2 _ rfl _ rfl
   have h40 := hJ.vals 14 dd40.1 (fun c hc => by have hc : some 18 = some c := hc; cases hc; exact hun)
   rw [hT] at h40
   have h40 : (fun v w9 => ∃ g, v = .slice (some ⟨g, 0, none⟩) 0 0 ∧ B + 3 ≤ g ∧ Bk w9 g 5 #[]) (f 14) w2 := h40
   obtain ⟨g40, e40, l40, b40⟩ := h40
   rw [e40] at q40
   clear dd40
   have q43 := hJ.iw hT (hdep ⟨17, .data⟩ (by simp) rfl) rfl rfl _ rfl _ rfl
   have hord : ∀ x ∈ ([(20, 0), (20, 3), (20, 6), (20, 10), (20, 14), (20, 16), (20, 17), (20, 18)] : List (Nat × Nat)), x.1 = 18 → listed.getD x.2 false = true := (by intro x hx he; simp only [List.mem_cons, List.not_mem_nil, or_false] at hx; rcases hx with rfl | rfl | rfl | rfl | rfl | rfl | rfl | rfl; all_goals first | (exact absurd he (by decide)) | assumption)
   have hcut : listed.getD 20 false = false := by
    cases hc : listed.getD 20 false with
    | false => rfl
    | true =>
     have hc0 := hJ.ord (20, 18) (by simp) hc
     exact absurd hc0 (by rw [hun]; decide)
   have hpre := hJ.pre hcut
   have hw2 := hpre.sz'
   have hzl := Z0.out.lt
   exact wp_app_emp (.tmp 40) (.tmp 43) rfl (B + 3) g40 ⟨x.sec.ad, x.sec.cap, x.sec.l.take 64⟩ q40 q43 l40 b40 (by omega) (bcut_in (HX.out.sec.ext (Ex.trans BW.out hpre)) 64) (by show (x.sec.l.take 64).length ≤ _; rw [List.length_take]; omega) (fun v' w' hown hx' => hK _ _ (hJ.plain (by rw [hls]; decide) hFst (by decide) hx' (by rw [hT]; obtain ⟨p, rfl, hl, hn⟩ := own_pn hown; exact ⟨p, rfl, hl, hn⟩) hord))
  ·have q26 := hJ.iw hT (hdep ⟨0, .data⟩ (by simp) rfl) rfl rfl _ rfl _ rfl
   have q27 := hJ.iw hT (hdep ⟨1, .data⟩ (by simp) rfl) rfl rfl _ rfl _ rfl
   have dd30 := hdep ⟨4, .data⟩ (by simp) rfl
   have q30 := dd30.2 _ rfl _ rfl
   have h30 := hJ.vals 4 dd30.1 (fun c hc => by have hc : some 19 = some c := hc; cases hc; exact hun)
   rw [hT] at h30
   have h30 : (fun v _ => ∃ d : List UInt8, v = digV d ∧ d.length = 16) (f 4) w2 := h30
   obtain ⟨d30, e30, n30⟩ := h30
   rw [e30] at q30
   clear dd30
   have dd33 := hdep ⟨7, .data⟩ (by simp) rfl
   have q33 := dd33.2 _ rfl _ rfl
   have h33 := hJ.vals 7 dd33.1 (fun c hc => by have hc : some 19 = some c := hc; cases hc; exact hun)
   rw [hT] at h33
   have h33 : (fun v _ => ∃ d : List UInt8, v = digV d ∧ d.length = 16) (f 7) w2 := h33
   obtain ⟨d33, e33, n33⟩ := h33
   rw [e33] at q33
   clear dd33
   have q34 := hJ.iw hT (hdep ⟨8, .data⟩ (by simp) rfl) rfl rfl _ rfl _ rfl
   have dd39 := hdep ⟨13, .data⟩ (by simp) rfl
   have q39 := dd39.2 _ rfl _ rfl
   have h39 := hJ.vals 13 dd39.1 (fun c hc => by have hc : some 19 = some c := hc; cases hc; exact hun)
   rw [hT] at h39
   have h39 : (fun v _ => ∃ u : Int, v = .int .i64 u ∧ 0 ≤ u ∧ u < lim) (f 13) w2 := h39
   obtain ⟨d39, e39, n39, m39⟩ := h39
   rw [e39] at q39
   clear dd39
   have dd44 := hdep ⟨18, .data⟩ (by simp) rfl
   have q44 := dd44.2 _ rfl _ rfl
   have h44 := hJ.vals 18 dd44.1 (fun c hc => by have hc : some 19 = some c := hc; cases hc; exact hun)
   rw [hT] at h44
   have h44 : (fun v w9 => ∃ p : Pt, v = p.V ∧ p.l = x.sec.l.take 64 ∧ PN w9 (B + 3) p) (f 18) w2 := h44
   obtain ⟨p44, e44, l44, n44⟩ := h44
   rw [e44] at q44
   clear dd44
   have hord : ∀ x ∈ ([(20, 0), (20, 3), (20, 6), (20, 10), (20, 14), (20, 16), (20, 17), (20, 18)] : List (Nat × Nat)), x.1 = 19 → listed.getD x.2 false = true := (by intro x hx he; simp only [List.mem_cons, List.not_mem_nil, or_false] at hx; rcases hx with rfl | rfl | rfl | rfl | rfl | rfl | rfl | rfl; all_goals first | (exact absurd he (by decide)) | assumption)
   refine wp_build _ _ rfl (Vt.mk id gen d30 p44 lim d39 d33 false false).C.toArray ?_ (hK _ _ (hJ.plain (by rw [hls]; decide) hFst (by decide) (Ex.refl _) (by rw [hT]; exact ⟨_, rfl, ⟨⟨HID.out, by show 0 ≤ gen; have := HG.out.1; omega, by show gen < _; have := HG.out.2; omega, n30, by show _ ≤ lim; have := HL.out.1; omega, by show lim ≤ _; have := HL.out.2; omega, by show _ ≤ d39; have := n39; omega, by show d39 ≤ _; have := m39; have := HL.out.2; omega, n33⟩, n44.less (Nat.zero_le _), by show p44.l.length ≤ 64; rw [l44, List.length_take]; omega⟩, rfl, kv_right HG.out.1 HG.out.2 HL.out.1 HL.out.2 n39 m39 (by rw [l44, List.length_take]; omega)⟩) hord))
   simp only [List.map_cons, List.map_nil, show a.eval (.tmp 26) = _ from q26, show a.eval (.tmp 27) = _ from q27, show a.eval (.tmp 30) = _ from q30, show a.eval (.tmp 33) = _ from q33, show a.eval (.tmp 34) = _ from q34, show a.eval (.tmp 39) = _ from q39, show a.eval (.tmp 44) = _ from q44]
   exact built_kv _ _ _ _ _ _ _ HID.out n30 n33
  have q4 := hout 4 ob
  have dd45 := hdep ⟨19, .data⟩ (by simp) rfl
  have q45 := dd45.2 _ rfl _ rfl
  have h45 := hJ.vals 19 dd45.1 (fun c hc => by have hc : some 20 = some c := hc; cases hc; exact hun)
  rw [hT] at h45
  have h45 : (fun v w9 => ∃ y : Vt, v = y.V ∧ TVN w9 y ∧ y.id = id ∧ y.ct.right = true) (f 19) w2 := h45
  obtain ⟨y45, e45, n45, i45, r45⟩ := h45
  rw [e45] at q45
  clear dd45
  have hl0 := (hdep ⟨0, .phase⟩ (by simp) rfl).1
  have hl3 := (hdep ⟨3, .phase⟩ (by simp) rfl).1
  have hl6 := (hdep ⟨6, .phase⟩ (by simp) rfl).1
  have hl10 := (hdep ⟨10, .phase⟩ (by simp) rfl).1
  have hl14 := (hdep ⟨14, .phase⟩ (by simp) rfl).1
  have hl16 := (hdep ⟨16, .phase⟩ (by simp) rfl).1
  have hl17 := (hdep ⟨17, .phase⟩ (by simp) rfl).1
  have hl18 := (hdep ⟨18, .chain⟩ (by simp) rfl).1
  have hord : ∀ x ∈ ([(20, 0), (20, 3), (20, 6), (20, 10), (20, 14), (20, 16), (20, 17), (20, 18)] : List (Nat × Nat)), x.1 = 20 → listed.getD x.2 false = true := (by intro x hx he; simp only [List.mem_cons, List.not_mem_nil, or_false] at hx; rcases hx with rfl | rfl | rfl | rfl | rfl | rfl | rfl | rfl; all_goals first | (exact absurd he (by decide)) | assumption)
  have hcut := hun
  have hpre := hJ.pre hcut
  have hc1 : ∀ j, j ≠ 20 → ([true, true, true, true, false, true, true, false, true, true, true, true, true, false, false, true, true, true, false, false, true] : List Bool).getD j true = false → listed.getD j false = true → ∃ c, (([none, none, none, none, some 19, none, none, some 19, none, none, none, none, none, some 19, some 18, none, none, none, some 19, some 20, none] : List (Option Nat))).getD j none = some c ∧ (c = 20 ∨ listed.getD c false = true) := by
   intro j hj hfj hl
   have hm : j = 4 ∨ j = 7 ∨ j = 13 ∨ j = 14 ∨ j = 18 ∨ j = 19 := by
    rcases Nat.lt_or_ge j 21 with h | h
    ·have hk : j = 0 ∨ j = 1 ∨ j = 2 ∨ j = 3 ∨ j = 4 ∨ j = 5 ∨ j = 6 ∨ j = 7 ∨ j = 8 ∨ j = 9 ∨ j = 10 ∨ j = 11 ∨ j = 12 ∨ j = 13 ∨ j = 14 ∨ j = 15 ∨ j = 16 ∨ j = 17 ∨ j = 18 ∨ j = 19 ∨ j = 20 := by omega
     rcases hk with rfl | rfl | rfl | rfl | rfl | rfl | rfl | rfl | rfl | rfl | rfl | rfl | rfl | rfl | rfl | rfl | rfl | rfl | rfl | rfl | rfl <;> first | (exact absurd hfj (by decide)) | simp
    ·rw [List.getD_eq_getElem?_getD, List.getElem?_eq_none (by simpa using h)] at hfj; cases hfj
   rcases hm with rfl | rfl | rfl | rfl | rfl | rfl
   iterate 3
    focus
     exact ⟨19, rfl, Or.inr (hdep ⟨19, .data⟩ (by simp) rfl).1⟩
   ·exact ⟨18, rfl, Or.inr (hdep ⟨18, .chain⟩ (by simp) rfl).1⟩
   ·exact ⟨19, rfl, Or.inr (hdep ⟨19, .data⟩ (by simp) rfl).1⟩
   ·exact ⟨20, rfl, Or.inl rfl⟩
  refine st_v _ _ (B + 2) y45 rfl q4 q45 n45.ok (Z0.out.ext hpre).2 (by rfl) (fun w5 hd ho => ?_)
  have hfin : ∃ y : Vt, VB w5 (B + 2) y ∧ TVN w5 y ∧ y.id = id ∧ y.ct.right = true ∧ Ex w w5 := ⟨y45, hd, ⟨n45.ok, n45.sec.onlyT ho (Z0.out.ext hpre).2 (by decide), n45.len⟩, i45, r45, ho.below w.heap.size (by rw [← HB.out]; omega) w (Ex.trans BW.out hpre)⟩
  exact hK _ _ (hJ.mod (by rw [hls]; decide) HFX (by rw [hT]; exact trivial) hc1 (Or.inl rfl) (fun _ => hfin) hord)
 intro listed f w2 hall hJ
 have xf : (fun w9 => ∃ y : Vt, VB w9 (B + 2) y ∧ TVN w9 y ∧ y.id = id ∧ y.ct.right = true ∧ Ex w w9) w2 := hJ.fin (hall 20 (by simp))
 simp only [putAll, Act.put, List.setIfInBounds_toArray, List.set_cons_zero, List.set_cons_succ, Nat.zero_add, Nat.reduceAdd]
 clear hJ hall hT HFX hFst
 generalize f 0 = y0
 generalize f 1 = y1
 generalize f 2 = y2
 generalize f 3 = y3
 generalize f 4 = y4
 generalize f 5 = y5
 generalize f 6 = y6
 generalize f 7 = y7
 generalize f 8 = y8
 generalize f 9 = y9
 generalize f 10 = y10
 generalize f 11 = y11
 generalize f 12 = y12
 generalize f 13 = y13
 generalize f 14 = y14
 generalize f 15 = y15
 generalize f 16 = y16
 generalize f 17 = y17
 generalize f 18 = y18
 generalize f 19 = y19
 obtain ⟨y, z1, z2, z3, z4, z5⟩ := xf
 have Z1 := Hi z1
 have Z2 := Hi (And.intro z2 (And.intro z3 (And.intro z4 z5)))
 clear z1 z2 z3 z4 z5
 go_wp2_with fail
 exact bodyPost_ret (res_v rfl _ _ (B + 2) rfl y Z1.out) rfl ⟨y, rfl, Z2.out⟩
end Go.Proofs.Ytmjfnpmnhehnkaa
namespace Go.Proofs.Ytmjfnpmnhehnkaa
open Go.RowKit
theorem Tc.obj9 {w w' : World} {D : Nat} {rv : Value} {vs : List Vt} (k : Tc D rv.ownBlock w w') (ht : TB w D rv vs) {g : Nat} {t : TypeId} {cs : Array Value} {fr : Nat × Nat} (hb : w.heap[g]? = some (.cells cs t fr)) (h1 : t ≠ 169) (h2 : t ≠ 36) : w'.heap[g]? = some (.cells cs t fr) := by
 refine (k.block g (Array.getElem?_eq_some_iff.1 hb).1 (fun e => ?_) (fun e => ?_)).trans hb
 ·subst e
  have h3 := ht.blk
  unfold Bk at h3; rw [hb] at h3; exact h1 (Obj.cells.inj (Option.some.inj h3)).2.1
 rcases ht.row.blk with h3 | ⟨gb, h3, _, _, cs2, hb2⟩
 ·rw [h3] at e; cases e
 rw [h3] at e; cases e
 unfold Bk at hb2; rw [hb] at hb2; exact h2 (Obj.cells.inj (Option.some.inj hb2)).2.1
theorem Ex.obj9 {w w' : World} (k : Ex w w') {g : Nat} {o : Obj} (hb : w.heap[g]? = some o) : w'.heap[g]? = some o := (k.block g (Array.getElem?_eq_some_iff.1 hb).1).trans hb
def OneK (v : Nat → List Vt) (s : Nat) : Prop := ∃ z : Vt, z.ct = k3z ∧ v s = [z] ∧ ∀ i, i < 16 → i ≠ s → v i = []
def At5 (w0 w : World) (f : Value) (P : Rt → Prop) (b : Bool) : Prop := ∃ h y, f = .pointer (some ⟨h, 0, none⟩) ∧ w0.heap.size ≤ h ∧ RB w h y ∧ (b = true → P y)
def Y1 (y : Rt) : Prop := y.why = 0 ∧ y.gen = 1
def Y2 (y : Rt) : Prop := y.why = 14
structure K5 (w0 : World) (M : Nat) (D : Nat → Nat) (s g g1 : Nat) (b2 b6 b7 b8 b9 : Bool) (f6 f7 : Value) (w : World) : Prop where
 ext : Ex w0 w
 sec : w.heap[g]? = some (.cells #[.int .u8 115] 5 (1, 2))
 q : QB w g1 (k3q g)
 im : ∃ r v, IM w w0.heap.size M D r v ∧ (b2 = false → ∀ i, i < 16 → v i = []) ∧ (b2 = true → OneK v s)
 a6 : b6 = true → At5 w0 w f6 Y1 b8
 a7 : b7 = true → At5 w0 w f7 Y2 b9
 ne : b6 = true → b7 = true → f6 ≠ f7
theorem At5.ext {w0 w w' : World} {f : Value} {P : Rt → Prop} {b : Bool} (h : At5 w0 w f P b) (k : Ex w w') : At5 w0 w' f P b := by
 obtain ⟨h, y, e, h1, h2, h3⟩ := h
 exact ⟨h, y, e, h1, h2.ext k, h3⟩
theorem K5.grow {w0 : World} {M : Nat} {D : Nat → Nat} {s g g1 : Nat} {b2 b6 b7 b8 b9 : Bool} {f6 f7 : Value} {w w' : World} (h : K5 w0 M D s g g1 b2 b6 b7 b8 b9 f6 f7 w) (k : Ex w w') : K5 w0 M D s g g1 b2 b6 b7 b8 b9 f6 f7 w' :=
 ⟨Ex.trans h.ext k, k.obj9 h.sec, h.q.ext k, by obtain ⟨r, v, h1, h2⟩ := h.im; exact ⟨r, v, h1.ext k, h2⟩, fun e => (h.a6 e).ext k, fun e => (h.a7 e).ext k, h.ne⟩
theorem At5.tc {w0 w w' : World} {f : Value} {P : Rt → Prop} {b : Bool} {D : Nat} {rv : Value} {vs : List Vt} (h : At5 w0 w f P b) (k : Tc D rv.ownBlock w w') (ht : TB w D rv vs) : At5 w0 w' f P b := by
 obtain ⟨h, y, e, h1, h2, h3⟩ := h
 exact ⟨h, y, e, h1, ⟨h2.1, k.kt9 ht h2.2 (by decide) (by decide)⟩, h3⟩
theorem At5.only {w0 w w' : World} {f : Value} {P : Rt → Prop} {b : Bool} {g : Nat} (h : At5 w0 w f P b) (k : Only g w w') (hn : f ≠ .pointer (some ⟨g, 0, none⟩)) : At5 w0 w' f P b := by
 obtain ⟨h, y, rfl, h1, h2, h3⟩ := h
 exact ⟨h, y, rfl, h1, k.rb h2 (fun e => hn (by rw [e])), h3⟩
theorem K5.turn {w0 : World} {M : Nat} {D : Nat → Nat} {s g g1 : Nat} {b2 b6 b7 b8 b9 : Bool} {f6 f7 : Value} {w w' : World} {r r' : Nat → Value} {v v' : Nat → List Vt} (h : K5 w0 M D s g g1 b2 b6 b7 b8 b9 f6 f7 w) (hs : s < 16) (him : IM w w0.heap.size M D r v) (k : Tc (D s) (r s).ownBlock w w') (him' : IM w' w0.heap.size M D r' v') (ho : OneK v' s) : K5 w0 M D s g g1 true b6 b7 b8 b9 f6 f7 w' := by
 have ht := him.ts.tb s hs
 exact ⟨k.ex9 ht h.ext (him.ts.lo s hs), k.obj9 ht h.sec (by decide) (by decide), ⟨h.q.1, k.kt9 ht h.q.2 (by decide) (by decide)⟩, ⟨r', v', him', (fun e => by cases e), fun _ => ho⟩, fun e => (h.a6 e).tc k ht, fun e => (h.a7 e).tc k ht, h.ne⟩
theorem At5.lt {w0 w : World} {f : Value} {P : Rt → Prop} {b : Bool} (h : At5 w0 w f P b) : f ≠ .pointer (some ⟨w.heap.size, 0, none⟩) := by
 obtain ⟨h, y, rfl, _, h2, _⟩ := h
 intro e
 have h3 := h2.lt
 injection e with e; injection e with e; injection e with e
 omega
def S5 (w0 : World) (M : Nat) (D : Nat → Nat) (s g g1 : Nat) (l : Array Bool) (f : Nat → Value) (w : World) : Prop :=
 K5 w0 M D s g g1 (l.getD 2 false) (l.getD 6 false) (l.getD 7 false) (l.getD 8 false) (l.getD 9 false) (f 6) (f 7) w
section
variable {w0 : World} {M : Nat} {D : Nat → Nat} {s g g1 : Nat} {l : Array Bool} {f : Nat → Value} {w w' : World} {x : Value}
theorem S5.plain (h : S5 w0 M D s g g1 l f w) (i : Nat) (hi : i ≠ 2 ∧ i ≠ 6 ∧ i ≠ 7 ∧ i ≠ 8 ∧ i ≠ 9) (k : Ex w w') : S5 w0 M D s g g1 (l.setIfInBounds i true) (upd f i x) w' := by
 unfold S5
 rw [gset hi.1 false, gset hi.2.1 false, gset hi.2.2.1 false, gset hi.2.2.2.1 false, gset hi.2.2.2.2 false, upd_ne _ _ (Ne.symm hi.2.1), upd_ne _ _ (Ne.symm hi.2.2.1)]
 exact K5.grow h k
theorem S5.s2 (hl : 2 < l.size) (h : K5 w0 M D s g g1 true (l.getD 6 false) (l.getD 7 false) (l.getD 8 false) (l.getD 9 false) (f 6) (f 7) w') : S5 w0 M D s g g1 (l.setIfInBounds 2 true) (upd f 2 x) w' := by
 unfold S5
 rw [set_new hl, gset (by decide) false, gset (by decide) false, gset (by decide) false, gset (by decide) false, upd_ne _ _ (by decide), upd_ne _ _ (by decide)]
 exact h
theorem S5.s7 (hl : 7 < l.size) (h : K5 w0 M D s g g1 (l.getD 2 false) (l.getD 6 false) true (l.getD 8 false) (l.getD 9 false) (f 6) x w') : S5 w0 M D s g g1 (l.setIfInBounds 7 true) (upd f 7 x) w' := by
 unfold S5
 rw [set_new hl, gset (by decide) false, gset (by decide) false, gset (by decide) false, gset (by decide) false, upd_ne _ _ (by decide), upd_same]
 exact h
theorem S5.s8 (hl : 8 < l.size) (h : K5 w0 M D s g g1 (l.getD 2 false) (l.getD 6 false) (l.getD 7 false) true (l.getD 9 false) (f 6) (f 7) w') : S5 w0 M D s g g1 (l.setIfInBounds 8 true) (upd f 8 x) w' := by
 unfold S5
 rw [set_new hl, gset (by decide) false, gset (by decide) false, gset (by decide) false, gset (by decide) false, upd_ne _ _ (by decide), upd_ne _ _ (by decide)]
 exact h
theorem S5.s9 (hl : 9 < l.size) (h : K5 w0 M D s g g1 (l.getD 2 false) (l.getD 6 false) (l.getD 7 false) (l.getD 8 false) true (f 6) (f 7) w') : S5 w0 M D s g g1 (l.setIfInBounds 9 true) (upd f 9 x) w' := by
 unfold S5
 rw [set_new hl, gset (by decide) false, gset (by decide) false, gset (by decide) false, gset (by decide) false, upd_ne _ _ (by decide), upd_ne _ _ (by decide)]
 exact h
end
end Go.Proofs.Ytmjfnpmnhehnkaa
