/- Wc -/
import Derived.Test.YtmjfnpmnhehnkaaXay
namespace Go.Proofs.Ytmjfnpmnhehnkaa
open Go.RowKit
/-- what region 2 of guess makes of the reply -/
structure P7 (w0 : World) (b : Nat) (y : Rt) (sl : List UInt8) (z : Int) (l : Array Bool) (f : Nat → Value) (w : World) : Prop where
 md : Md b w0 w
 e0 : l.getD 0 false = true → l.getD 3 false = false → ∃ g, f 0 = .slice (some ⟨g, 0, none⟩) 0 0 ∧ w0.heap.size ≤ g ∧ Bk w g 5 #[]
 e3 : l.getD 3 false = true → ∃ s : Pt, f 3 = s.V ∧ s.l = sl ∧ PN w w0.heap.size s
 rb : ∃ s : Pt, RB w b { y with sec := if l.getD 10 false = true then s else y.sec, left := if l.getD 12 false = true then z else y.left } ∧ (l.getD 10 false = true → s.l = sl ∧ PN w w0.heap.size s)
def GuPost (v : Vt) (q : Qt) (y : Rt) (w : World) (e : Ending) (w' : World) : Prop := ∃ (v' : Vt) (y' : Rt) (b : Bool), e = .returned (.tuple #[v'.V, y'.V, .bool b]) ∧ ((q.pin = v.pin ∧ v' = v ∧ b = false ∧ ∃ s : Pt, s.l = v.sec.l ∧ PN w' w.heap.size s ∧ y' = { y with sec := s, left := v.lim - v.used }) ∨ (q.pin ≠ v.pin ∧ b = true ∧ v' = (if v.used + 1 = v.lim then goneVt v.id v.gen true else { v with used := v.used + 1 }) ∧ y' = { y with why := 23, left := v.lim - (v.used + 1) })) ∧ Ex w w'
section
variable {w0 : World} {b : Nat} {y : Rt} {sl : List UInt8} {z : Int} {l : Array Bool} {f : Nat → Value} {w w' : World} {x : Value}
theorem P7.ex (h : P7 w0 b y sl z l f w) (k : Ex w w') : P7 w0 b y sl z l f w' :=
 ⟨h.md.trans (Ex.md k (by obtain ⟨s, h1, _⟩ := h.rb; exact Nat.le_of_lt h1.lt)), fun a c => by obtain ⟨g, h1, h2, h3⟩ := h.e0 a c; exact ⟨g, h1, h2, h3.ext k⟩, fun a => by obtain ⟨s, h1, h2, h3⟩ := h.e3 a; exact ⟨s, h1, h2, h3.ext k⟩, by obtain ⟨s, h1, h2⟩ := h.rb; exact ⟨s, h1.ext k, fun a => ⟨(h2 a).1, (h2 a).2.ext k⟩⟩⟩
theorem P7.plain (h : P7 w0 b y sl z l f w) (i : Nat) (hi : i ≠ 0 ∧ i ≠ 3 ∧ i ≠ 10 ∧ i ≠ 12) : P7 w0 b y sl z (l.setIfInBounds i true) (upd f i x) w := by
 refine ⟨h.md, ?_, ?_, ?_⟩
 ·rw [gset hi.1 false, gset hi.2.1 false, upd_ne _ _ (Ne.symm hi.1)]; exact h.e0
 ·rw [gset hi.2.1 false, upd_ne _ _ (Ne.symm hi.2.1)]; exact h.e3
 rw [gset hi.2.2.1 false, gset hi.2.2.2 false]; exact h.rb
theorem P7.s0 (h : P7 w0 b y sl z l f w) (h3 : l.getD 3 false = false) : P7 w0 b y sl z (l.setIfInBounds 0 true) (upd f 0 (.slice (some ⟨w.heap.size, 0, none⟩) 0 0)) (w.alloc (.cells #[] 5)) := by
 have k := h.ex (Ex.alloc w (.cells #[] 5))
 refine ⟨k.md, ?_, ?_, ?_⟩
 ·rw [upd_same]; exact fun _ _ => ⟨_, rfl, h.md.size, Bk.new rfl _ _⟩
 ·rw [gset (by decide) false, upd_ne _ _ (by decide)]; exact k.e3
 rw [gset (by decide) false, gset (by decide) false]; exact k.rb
theorem P7.s3 (h : P7 w0 b y sl z l f w) (hl : 3 < l.size) (k : Ex w w') {s : Pt} (h1 : s.l = sl) (h2 : PN w' w0.heap.size s) : P7 w0 b y sl z (l.setIfInBounds 3 true) (upd f 3 s.V) w' := by
 have k := h.ex k
 refine ⟨k.md, ?_, ?_, ?_⟩
 ·rw [set_new hl]; intro _ e; cases e
 ·rw [upd_same]; exact fun _ => ⟨s, rfl, h1, h2⟩
 rw [gset (by decide) false, gset (by decide) false]; exact k.rb
theorem P7.st (h : P7 w0 b y sl z l f w) {l' : Array Bool} {f' : Nat → Value} {y1 : Rt} (hb : RB w b y1) (ho : Only b w w') (e3 : l.getD 3 false = true) (h3' : l'.getD 3 false = l.getD 3 false) (f3 : f' 3 = f 3) (hr : ∃ s : Pt, RB w' b { y with sec := if l'.getD 10 false = true then s else y.sec, left := if l'.getD 12 false = true then z else y.left } ∧ (l'.getD 10 false = true → s.l = sl ∧ PN w w0.heap.size s)) : P7 w0 b y sl z l' f' w' := by
 refine ⟨h.md.trans ho.md, ?_, ?_, ?_⟩
 ·rw [h3', e3]; intro _ e; cases e
 ·rw [h3', f3]; intro a; obtain ⟨s, h1, h2, h3⟩ := h.e3 a; exact ⟨s, h1, h2, h3.onlyT ho hb.2 (by decide)⟩
 obtain ⟨s, h1, h2⟩ := hr; exact ⟨s, h1, fun a => ⟨(h2 a).1, (h2 a).2.onlyT ho hb.2 (by decide)⟩⟩
end
set_option maxHeartbeats 8000000 in
set_option maxRecDepth 100000 in
theorem guess11_any (v : Vt) (q : Qt) (y : Rt) (w : World) (hv : VI w v) (hvl : v.sec.l.length ≤ 100000000000000) (hr : 0 ≤ v.used ∧ v.used < v.lim ∧ v.lim ≤ 32) (hq : q.Ok) (hy : y.Ok) : Calls Try.prog 139 #[v.V, q.V, y.V] w (GuPost v q y w) := by
 obtain ⟨hv, hvs⟩ := hv
 have HVS := Hi hvs
 obtain ⟨u0, ul, l1⟩ := hr
 clear hvs
 obtain ⟨cs, hcs⟩ : ∃ cs, cs = v.C.toArray := ⟨_, rfl⟩
 obtain ⟨ds, hds⟩ : ∃ cs, cs = q.C.toArray := ⟨_, rfl⟩
 obtain ⟨es, hes⟩ : ∃ cs, cs = y.C.toArray := ⟨_, rfl⟩
 have A0 : Hid (VB (((((w.alloc (.cells cs 36)).alloc (.cells ds 86)).alloc (.cells es 83)).alloc (.cells zeroVt.C.toArray 36)).alloc (.cells zeroRt.C.toArray 83)) w.heap.size v) := Hi ⟨hv, by rw [hcs]; exact ((((Bk.new rfl _ _).more _).more _).more _).more _⟩
 have Q0 : Hid (QB (((((w.alloc (.cells cs 36)).alloc (.cells ds 86)).alloc (.cells es 83)).alloc (.cells zeroVt.C.toArray 36)).alloc (.cells zeroRt.C.toArray 83)) (w.heap.size + 1) q) := Hi ⟨hq, by rw [hds]; exact (((Bk.new (by simp) _ _).more _).more _).more _⟩
 have Y0 : Hid (RB (((((w.alloc (.cells cs 36)).alloc (.cells ds 86)).alloc (.cells es 83)).alloc (.cells zeroVt.C.toArray 36)).alloc (.cells zeroRt.C.toArray 83)) (w.heap.size + 2) y) := Hi ⟨hy, by rw [hes]; exact ((Bk.new (by simp) _ _).more _).more _⟩
 have Z0 : Hid (VB (((((w.alloc (.cells cs 36)).alloc (.cells ds 86)).alloc (.cells es 83)).alloc (.cells zeroVt.C.toArray 36)).alloc (.cells zeroRt.C.toArray 83)) (w.heap.size + 3) zeroVt) := Hi ⟨zeroVt_ok, (Bk.new (by simp) _ _).more _⟩
 have R0 : Hid (RB (((((w.alloc (.cells cs 36)).alloc (.cells ds 86)).alloc (.cells es 83)).alloc (.cells zeroVt.C.toArray 36)).alloc (.cells zeroRt.C.toArray 83)) (w.heap.size + 4) zeroRt) := Hi ⟨zeroRt_ok, Bk.new (by simp) _ _⟩
 have BW : Hid (Ex w (((((w.alloc (.cells cs 36)).alloc (.cells ds 86)).alloc (.cells es 83)).alloc (.cells zeroVt.C.toArray 36)).alloc (.cells zeroRt.C.toArray 83))) := Hi (Ex.trans (Ex.alloc w _) (Ex.trans (Ex.alloc _ _) (Ex.trans (Ex.alloc _ _) (Ex.trans (Ex.alloc _ _) (Ex.alloc _ _)))))
 rw [show (Calls Try.prog 139 #[v.V, q.V, y.V] w) = (Calls Try.prog 139 #[.agg cs, .agg ds, .agg es] w) by rw [hcs, hds, hes]; rfl]
 have HQ := Hi hq
 have HV := Hi hv
 have HY := Hi hy
 have g0 := hv.gen0
 have g1 := hv.gen1
 clear hcs hds hes hv hq hy
 go_enter Try.func139, Try.ntmps139
 go_wp2_with ((with_reducible refine so2 [1000+45, 1000+3] ?_ ?_); (focus rfl))
 (with_reducible refine ⟨?_⟩)
 change wpList _ _ _ _ _ (((((w.alloc (.cells cs 36)).alloc (.cells ds 86)).alloc (.cells es 83)).alloc (.cells zeroVt.C.toArray 36)).alloc (.cells zeroRt.C.toArray 83))
 generalize hw1 : (((((w.alloc (.cells cs 36)).alloc (.cells ds 86)).alloc (.cells es 83)).alloc (.cells zeroVt.C.toArray 36)).alloc (.cells zeroRt.C.toArray 83)) = w1 at *
 clear hw1
 obtain ⟨B, hB⟩ : ∃ B, B = w.heap.size := ⟨_, rfl⟩
 rw [← hB] at A0 Q0 Y0 Z0 R0 ⊢
 have HB := Hi hB
 clear hB
 obtain ⟨v4, v21, v22, v23, v40, v41⟩ := A0.out.cells
 unfold Pt.V at v21
 obtain ⟨-, -, q22, -, -⟩ := Q0.out.cells
 go_wp2_with ((with_reducible refine so2 [1000+45, 1000+3] ?_ ?_); (focus rfl))
 refine at9 (by go_simp) fun K0 hK => ld_qpin _ _ q rfl rfl Q0.out (hK _ _ ?_)
 clear hK
 go_wp2_with ((with_reducible refine so2 [1000+45, 1000+3] ?_ ?_); (focus rfl))
 refine at9 (by go_simp) fun K0 hK => ld_vpin _ _ v rfl rfl A0.out (hK _ _ ?_)
 clear hK
 go_wp2_with ((with_reducible refine so2 [1000+45, 1000+3] ?_ ?_); (focus rfl))
 refine at9 (by go_simp) fun K0 hK => wp_eql_dig _ _ _ rfl q.pin v.pin HQ.out.pinN HV.out.pinN rfl rfl (hK _ _ ?_)
 clear hK
 by_cases hp : q.pin = v.pin
 ·rw [decide_eq_true hp]
  clear v4 v21 v22 v23 v40 v41 q22
  go_wp2_with fail
  have HVL : Hid (v.sec.l.length ≤ 100000000000000) := Hi hvl
  have hS0 : ∀ (listed : Array Bool) (f : Nat → Value), (∀ i, listed.getD i false = false) → P7 w1 (B + 2) y v.sec.l (v.lim - v.used) listed f w1.drew := fun listed f h0 => by
   have k : Ex w1 w1.drew := (Below.refl w1.heap.size w1).drew
   refine ⟨Ex.md k (Nat.le_of_lt Y0.out.lt), (fun a => by rw [h0 0] at a; cases a), (fun a => by rw [h0 3] at a; cases a), nilB, ?_, fun a => by rw [h0 10] at a; cases a⟩
   rw [h0 10, h0 12]; exact Y0.out.ext k
  obtain ⟨T, hT⟩ : ∃ T : List (Value → Prop), T = [(fun _ => True), (fun zz => zz = .pointer (some ⟨B, 21, none⟩)), (fun zz => zz = v.sec.V), (fun _ => True), (fun zz => zz = .pointer (some ⟨B, 22, none⟩)), (fun zz => zz = .int .i64 v.lim), (fun zz => zz = .pointer (some ⟨B, 23, none⟩)), (fun zz => zz = .int .i64 v.used), (fun zz => zz = .int .i64 (v.lim - v.used)), (fun zz => zz = .pointer (some ⟨B + 2, 7, none⟩)), (fun _ => True), (fun zz => zz = .pointer (some ⟨B + 2, 6, none⟩)), (fun _ => True)] := ⟨_, rfl⟩
  refine wp_region_gen (JS T ([(3, 0), (10, 3)] : List (Nat × Nat)) (P7 w1 (B + 2) y v.sec.l (v.lim - v.used))) (by kernel_rfl) (by kernel_rfl) (by kernel_rfl) (fitB_spec (by kernel_rfl)) (fun listed f h => JS.start listed f h (hS0 listed f h)) ?_ ?_
  ·intro i o ho
   have hi : i < 13 := (Array.getElem?_eq_some_iff.1 ho).1
   have hi' : i = 0 ∨ i = 1 ∨ i = 2 ∨ i = 3 ∨ i = 4 ∨ i = 5 ∨ i = 6 ∨ i = 7 ∨ i = 8 ∨ i = 9 ∨ i = 10 ∨ i = 11 ∨ i = 12 := by omega
   clear hi
   rcases hi' with rfl | rfl | rfl | rfl | rfl | rfl | rfl | rfl | rfl | rfl | rfl | rfl | rfl
   all_goals (simp only [List.getElem?_toArray, List.getElem?_cons_zero, List.getElem?_cons_succ, Option.some.injEq] at ho; subst ho; intro listed f a wz hJ hsz hls hun hdep hout hlat; first | (rw [if_pos (by rfl)]; intro K hK) | skip)
   ·have hl3 : listed.getD 3 false = false := by
     cases hc : listed.getD 3 false with
     | false => rfl
     | true => exact absurd (hJ.ord (3, 0) (by simp) hc) (by rw [hun]; decide)
    clear hsz hdep hout hlat
    go_simp
    exact hK _ _ (hJ.nx hls hT rfl (by trivial) (P7.s0 hJ.st hl3) (no_head (by decide)))
   ·have q3 := hout 3 (outB_spec (by kernel_rfl))
    rw [Array.getD_eq_getD_getElem?] at q3
    clear hsz hdep hout hlat
    go_simp
    exact hK _ _ (hJ.nx hls hT rfl rfl (P7.plain hJ.st 1 (by decide)) (no_head (by decide)))
   ·have q15 := hJ.iq hT (hdep ⟨1, .data⟩ (by simp) rfl) rfl _ rfl _ rfl
    obtain ⟨v4, v21, v22, v23, v40, v41⟩ := VB.cells ((P7.md hJ.st).vb A0.out (by omega))
    clear hsz hdep hout hlat
    go_simp
    exact hK _ _ (hJ.nx hls hT rfl rfl (P7.plain hJ.st 2 (by decide)) (no_head (by decide)))
   ·have dd14 := hdep ⟨0, .data⟩ (by simp) rfl
    have q14 := dd14.2 _ rfl _ rfl
    have q16 := hJ.is hT (hdep ⟨2, .data⟩ (by simp) rfl) rfl _ rfl _ rfl
    have hl0 := (hdep ⟨0, .data⟩ (by simp) rfl).1
    have hord : ∀ x ∈ ([(3, 0), (10, 3)] : List (Nat × Nat)), x.1 = 3 → listed.getD x.2 false = true := (by intro x hx he; simp only [List.mem_cons, List.not_mem_nil, or_false] at hx; rcases hx with rfl | rfl; all_goals first | (exact absurd he (by decide)) | assumption)
    have hl0 := (hdep ⟨0, .data⟩ (by simp) rfl).1
    obtain ⟨g0', e0, hg0, hb0⟩ := P7.e0 hJ.st hl0 hun
    rw [e0] at q14
    have hin : v.sec.In wz w.heap.size := HVS.out.keep ((P7.md hJ.st).below w.heap.size (by rw [← HB.out]; omega) w BW.out)
    exact wp_app_emp _ _ rfl w1.heap.size g0' v.sec q14 q16 hg0 hb0 (P7.md hJ.st).size (hin.more (by have := (P7.md hJ.st).size; have := BW.out.sz; omega)) HVL.out (fun v5 w5 ho5 x5 => by
       obtain ⟨s5, rfl, hs5, hp5⟩ := own_pn ho5
       exact hK _ _ (hJ.nx hls hT rfl (by trivial) (P7.s3 hJ.st (by rw [hls]; decide) x5 hs5 hp5) hord))
   ·have q3 := hout 3 (outB_spec (by kernel_rfl))
    rw [Array.getD_eq_getD_getElem?] at q3
    clear hsz hdep hout hlat
    go_simp
    exact hK _ _ (hJ.nx hls hT rfl rfl (P7.plain hJ.st 4 (by decide)) (no_head (by decide)))
   ·have q18 := hJ.iq hT (hdep ⟨4, .data⟩ (by simp) rfl) rfl _ rfl _ rfl
    obtain ⟨v4, v21, v22, v23, v40, v41⟩ := VB.cells ((P7.md hJ.st).vb A0.out (by omega))
    clear hsz hdep hout hlat
    go_simp
    exact hK _ _ (hJ.nx hls hT rfl rfl (P7.plain hJ.st 5 (by decide)) (no_head (by decide)))
   ·have q3 := hout 3 (outB_spec (by kernel_rfl))
    rw [Array.getD_eq_getD_getElem?] at q3
    clear hsz hdep hout hlat
    go_simp
    exact hK _ _ (hJ.nx hls hT rfl rfl (P7.plain hJ.st 6 (by decide)) (no_head (by decide)))
   ·have q20 := hJ.iq hT (hdep ⟨6, .data⟩ (by simp) rfl) rfl _ rfl _ rfl
    obtain ⟨v4, v21, v22, v23, v40, v41⟩ := VB.cells ((P7.md hJ.st).vb A0.out (by omega))
    clear hsz hdep hout hlat
    go_simp
    exact hK _ _ (hJ.nx hls hT rfl rfl (P7.plain hJ.st 7 (by decide)) (no_head (by decide)))
   ·have q19 := hJ.iq hT (hdep ⟨5, .data⟩ (by simp) rfl) rfl _ rfl _ rfl
    have q21 := hJ.iq hT (hdep ⟨7, .data⟩ (by simp) rfl) rfl _ rfl _ rfl
    clear hsz hdep hout hlat
    go_simp
    exact hK _ _ (hJ.nx hls hT rfl (by first | rfl | exact int_eq (by omega) | exact int_eq (by rw [IntKind.wrap_i64]; omega) | exact congrArg Value.bool (decide_eq_false (by omega)) | exact congrArg Value.bool (decide_eq_true (by omega)) | exact congrArg (Value.int .u64) (by omega)) (P7.plain hJ.st 8 (by decide)) (no_head (by decide)))
   ·have q5 := hout 5 (outB_spec (by kernel_rfl))
    rw [Array.getD_eq_getD_getElem?] at q5
    clear hsz hdep hout hlat
    go_simp
    exact hK _ _ (hJ.nx hls hT rfl rfl (P7.plain hJ.st 9 (by decide)) (no_head (by decide)))
   ·have q23 := hJ.is hT (hdep ⟨9, .data⟩ (by simp) rfl) rfl _ rfl _ rfl
    have dd17 := hdep ⟨3, .data⟩ (by simp) rfl
    have q17 := dd17.2 _ rfl _ rfl
    have hl3 := (hdep ⟨3, .data⟩ (by simp) rfl).1
    have hord : ∀ x ∈ ([(3, 0), (10, 3)] : List (Nat × Nat)), x.1 = 10 → listed.getD x.2 false = true := (by intro x hx he; simp only [List.mem_cons, List.not_mem_nil, or_false] at hx; rcases hx with rfl | rfl; all_goals first | (exact absurd he (by decide)) | assumption)
    have hl3 := (hdep ⟨3, .data⟩ (by simp) rfl).1
    obtain ⟨s5, e5, hs5, hp5⟩ := P7.e3 hJ.st hl3
    rw [e5] at q17
    obtain ⟨s6, hrb, _⟩ := P7.rb hJ.st
    rw [hun] at hrb
    exact st_rsec (by kernel_rfl) _ _ (B + 2) _ s5 rfl q23 q17 hrb (fun w5 hd ho => hK _ _ (hJ.nx hls hT rfl (by trivial) (P7.st hJ.st hrb ho hl3 (gset (by decide) false) (upd_ne _ _ (by decide)) ⟨s5, by rw [set_new (by rw [hls]; decide), gset (by decide) false]; exact hd, fun _ => ⟨hs5, hp5⟩⟩) hord))
   ·have q5 := hout 5 (outB_spec (by kernel_rfl))
    rw [Array.getD_eq_getD_getElem?] at q5
    clear hsz hdep hout hlat
    go_simp
    exact hK _ _ (hJ.nx hls hT rfl rfl (P7.plain hJ.st 11 (by decide)) (no_head (by decide)))
   have q24 := hJ.is hT (hdep ⟨11, .data⟩ (by simp) rfl) rfl _ rfl _ rfl
   have q22 := hJ.is hT (hdep ⟨8, .data⟩ (by simp) rfl) rfl _ rfl _ rfl
   have hl3 : listed.getD 3 false = true := hJ.ord (10, 3) (by simp) ((hdep ⟨10, .chain⟩ (by simp) rfl).1)
   obtain ⟨s6, hrb, hs6⟩ := P7.rb hJ.st
   rw [hun] at hrb
   exact st_rleft (by kernel_rfl) _ _ (B + 2) _ (v.lim - v.used) rfl q24 q22 (by omega) (by omega) hrb (fun w5 hd ho => hK _ _ (hJ.nx hls hT rfl (by trivial) (P7.st hJ.st hrb ho hl3 (gset (by decide) false) (upd_ne _ _ (by decide)) ⟨s6, by rw [gset (show (12 : Nat) ≠ 10 by decide) false, set_new (by rw [hls]; decide)]; exact hd, fun a => hs6 (by rw [gset (show (12 : Nat) ≠ 10 by decide) false] at a; exact a)⟩) (no_head (by decide))))
  intro listed f wz hall hJ
  have hst := hJ.st
  simp only [putAll, Act.put, List.setIfInBounds_toArray, List.set_cons_zero, List.set_cons_succ, Nat.zero_add, Nat.reduceAdd]
  have md := P7.md hst
  obtain ⟨s5, hrb, hs5⟩ := P7.rb hst
  obtain ⟨hs5, hp5⟩ := hs5 (hall 10 (by simp))
  rw [hall 10 (by simp), hall 12 (by simp)] at hrb
  obtain ⟨yn, hyn⟩ : ∃ x : Rt, x = { y with sec := s5, left := v.lim - v.used } := ⟨_, rfl⟩
  have HYN := Hi hyn
  have YN : Hid (RB wz (B + 2) yn) := Hi (by rw [hyn]; exact hrb)
  have HS5 := Hi hs5
  have HP5 := Hi (hp5.less BW.out.sz)
  replace A0 := Hi (md.vb A0.out (by omega))
  replace Z0 := Hi (md.vb Z0.out (by omega))
  replace R0 := Hi (md.rb R0.out (by omega))
  replace BW := Hi (md.below w.heap.size (by rw [← HB.out]; omega) w BW.out)
  clear md hrb hyn hs5 hp5
  clear hJ hall hT
  clear hS0 Y0 Q0 hst
  go_wp2_with fail
  have HP : Hid (P5 B wz B (B + 2) (B + 3) (B + 4) v v yn false false wz.drew) := Hi (P5.start (Nat.le_of_lt A0.out.lt) A0.out YN.out Z0.out R0.out)
  refine ret5 HP.out (by omega) (by omega) (by omega) (by omega) rfl (by kernel_rfl) (by kernel_rfl) (by kernel_rfl) (by kernel_rfl) (by simp) (by simp) rfl rfl rfl rfl ?_
  ·intro f wy f4 hz2 hz3 hk5
   simp only [putAll, Act.put, List.setIfInBounds_toArray, List.set_cons_zero, List.set_cons_succ, Nat.zero_add, Nat.reduceAdd]
   rw [f4]
   clear f4
   go_wp2_with fail
   refine bodyPost_ret (res_vr rfl _ _ (B + 3) (B + 4) rfl rfl v yn hz2 hz3) rfl ⟨v, yn, false, rfl, ?_, (show Ex w wy from Below.trans BW.out (by rw [← HB.out]; exact hk5.below))⟩
   exact Or.inl ⟨hp, rfl, rfl, s5, HS5.out, HP5.out.kt hk5 (by decide), HYN.out⟩
 rw [decide_eq_false hp]
 go_wp2_with ((with_reducible refine so2 [1000+45, 1000+3] ?_ ?_); (focus rfl))
 clear Q0 q22
 refine at9 (by go_simp) fun K0 hK => st_rwhy (by kernel_rfl) _ _ (B + 2) y 23 rfl rfl rfl (by decide) (by decide) Y0.out (fun w2 hd ho => hK _ _ ?_)
 clear hK
 replace A0 := Hi (ho.vb A0.out (by omega))
 replace Z0 := Hi (ho.vb Z0.out (by omega))
 replace R0 := Hi (ho.rb R0.out (by omega))
 replace BW := Hi (ho.below w.heap.size (by rw [← HB.out]; omega) w BW.out)
 replace Y0 := Hi hd
 clear hd ho
 clear v4 v21 v22 v23 v40 v41
 obtain ⟨v4, v21, v22, v23, v40, v41⟩ := A0.out.cells
 go_wp2_with ((with_reducible refine so2 [1000+45, 1000+3] ?_ ?_); (focus rfl))
 refine at9 (by go_simp) fun K0 hK => st_vused (by kernel_rfl) _ _ B v (v.used + 1) rfl rfl rfl (by omega) (by omega) A0.out (fun w3 hd ho => hK _ _ ?_)
 clear hK
 replace Y0 := Hi (ho.rb Y0.out (by omega))
 replace Z0 := Hi (ho.vb Z0.out (by omega))
 replace R0 := Hi (ho.rb R0.out (by omega))
 replace BW := Hi (ho.below w.heap.size (by rw [← HB.out]; omega) w BW.out)
 replace A0 := Hi hd
 clear hd ho
 clear v4 v21 v22 v23 v40 v41
 obtain ⟨vn, hvn⟩ : ∃ x : Vt, x = { v with used := v.used + 1 } := ⟨_, rfl⟩
 rw [← hvn] at A0
 have VL : vn.lim = v.lim := by rw [hvn]
 have VU : vn.used = v.used + 1 := by rw [hvn]
 have VID : Hid (vn.id = v.id ∧ vn.gen = v.gen) := Hi (by rw [hvn]; exact ⟨rfl, rfl⟩)
 have HVN := Hi hvn
 clear hvn
 obtain ⟨v4, v21, v22, v23, v40, v41⟩ := A0.out.cells
 rw [VL] at v22
 rw [VU] at v23
 go_wp2_with ((with_reducible refine so2 [1000+45, 1000+3] ?_ ?_); (focus rfl))
 refine at9 (by go_simp) fun K0 hK => st_rleft (by kernel_rfl) _ _ (B + 2) _ (v.lim - (v.used + 1)) rfl rfl rfl (by omega) (by omega) Y0.out (fun w4 hd ho => hK _ _ ?_)
 clear hK
 replace A0 := Hi (ho.vb A0.out (by omega))
 replace Z0 := Hi (ho.vb Z0.out (by omega))
 replace R0 := Hi (ho.rb R0.out (by omega))
 replace BW := Hi (ho.below w.heap.size (by rw [← HB.out]; omega) w BW.out)
 replace Y0 := Hi hd
 clear hd ho
 clear v4 v21 v22 v23 v40 v41
 obtain ⟨yn, hyn⟩ : ∃ x : Rt, x = { y with why := 23, left := v.lim - (v.used + 1) } := ⟨_, rfl⟩
 rw [← hyn] at Y0
 have HYN := Hi hyn
 clear hyn
 obtain ⟨v4, v21, v22, v23, v40, v41⟩ := A0.out.cells
 rw [VL] at v22
 rw [VU] at v23
 rw [VID.out.2] at v4
 by_cases he : v.used + 1 = v.lim
 ·have hge : v.used + 1 ≥ v.lim := by omega
  go_wp2_with ((with_reducible refine so0 ?_ ?_); (focus rfl))
  refine at9 (by go_simp) fun K0 hK => ld_vid _ _ vn rfl rfl A0.out (hK _ _ ?_)
  clear hK
  rw [VID.out.1]
  go_wp2_with ((with_reducible refine so2 [1000+45, 1000+3] ?_ ?_); (focus rfl))
  refine at9 (by go_simp) fun K0 hK => wp_build _ _ rfl _ (built_gone v.id v.gen true HV.out.idN) (hK _ _ ?_)
  clear hK
  go_wp2_with ((with_reducible refine so2 [1000+45, 1000+3] ?_ ?_); (focus rfl))
  refine at9 (by go_simp) fun K0 hK => st_v _ _ B (goneVt v.id v.gen true) rfl rfl rfl (goneVt_ok HV.out.idN HV.out.gen0 HV.out.gen1) A0.out.2 (by rw [List.size_toArray, Vt.len A0.out.1]) (fun w5 hd ho => hK _ _ ?_)
  clear hK
  replace Y0 := Hi (ho.rb Y0.out (by omega))
  replace Z0 := Hi (ho.vb Z0.out (by omega))
  replace R0 := Hi (ho.rb R0.out (by omega))
  replace BW := Hi (ho.below w.heap.size (by rw [← HB.out]; omega) w BW.out)
  replace A0 := Hi hd
  clear hd ho
  clear v4 v21 v22 v23 v40 v41
  obtain ⟨vg, hvg⟩ : ∃ x : Vt, x = goneVt v.id v.gen true := ⟨_, rfl⟩
  rw [← hvg] at A0
  have HVG := Hi hvg
  clear hvg
  go_wp2_with fail
  have HP : Hid (P5 B w5 B (B + 2) (B + 3) (B + 4) vg vg yn false false w5.drew) := Hi (P5.start (Nat.le_of_lt A0.out.lt) A0.out Y0.out Z0.out R0.out)
  refine ret5 HP.out (by omega) (by omega) (by omega) (by omega) rfl (by kernel_rfl) (by kernel_rfl) (by kernel_rfl) (by kernel_rfl) (by simp) (by simp) rfl rfl rfl rfl ?_
  ·intro f wy f4 hz2 hz3 hk5
   simp only [putAll, Act.put, List.setIfInBounds_toArray, List.set_cons_zero, List.set_cons_succ, Nat.zero_add, Nat.reduceAdd]
   rw [f4]
   clear f4
   go_wp2_with fail
   refine bodyPost_ret (res_vr rfl _ _ (B + 3) (B + 4) rfl rfl vg yn hz2 hz3) rfl ⟨vg, yn, true, rfl, ?_, (show Ex w wy from Below.trans BW.out (by rw [← HB.out]; exact hk5.below))⟩
   exact Or.inr ⟨hp, rfl, by rw [if_pos he]; exact HVG.out, HYN.out⟩
 have hge : ¬ v.used + 1 ≥ v.lim := by omega
 go_wp2_with ((with_reducible refine so0 ?_ ?_); (focus rfl))
 clear v4 v21 v22 v23 v40 v41
 have HP : Hid (P5 B w4 B (B + 2) (B + 3) (B + 4) vn vn yn false false w4.drew) := Hi (P5.start (Nat.le_of_lt A0.out.lt) A0.out Y0.out Z0.out R0.out)
 refine ret5 HP.out (by omega) (by omega) (by omega) (by omega) rfl (by kernel_rfl) (by kernel_rfl) (by kernel_rfl) (by kernel_rfl) (by simp) (by simp) rfl rfl rfl rfl ?_
 ·intro f wy f4 hz2 hz3 hk5
  simp only [putAll, Act.put, List.setIfInBounds_toArray, List.set_cons_zero, List.set_cons_succ, Nat.zero_add, Nat.reduceAdd]
  rw [f4]
  clear f4
  go_wp2_with fail
  refine bodyPost_ret (res_vr rfl _ _ (B + 3) (B + 4) rfl rfl vn yn hz2 hz3) rfl ⟨vn, yn, true, rfl, ?_, (show Ex w wy from Below.trans BW.out (by rw [← HB.out]; exact hk5.below))⟩
  exact Or.inr ⟨hp, rfl, by rw [if_neg he]; exact HVN.out, HYN.out⟩
end Go.Proofs.Ytmjfnpmnhehnkaa
