/- Wb -/
import Derived.Test.YtmjfnpmnhehnkaaXau
namespace Go.Proofs.Ytmjfnpmnhehnkaa
open Go.RowKit
abbrev TVR : List Nat := [36, 83]
/-- a vault and a reply are stored where the answer is: x of block c, y of block d -/
structure P5 (B : Nat) (w0 : World) (a b c d : Nat) (u x : Vt) (y : Rt) (l2 l3 : Bool) (w : World) : Prop where
 k : Kt TVR B w0 w
 va : VB w a u
 rb : RB w b y
 vc : ∃ z, VB w c z ∧ (l2 = true → z = x)
 rd : ∃ z, RB w d z ∧ (l3 = true → z = y)
theorem VB.rne {w : World} {a b : Nat} {x : Vt} {y : Rt} (h : VB w a x) (k : RB w b y) : a ≠ b := fun e => by
 have h1 := h.2; have h2 := k.2
 rw [e] at h1
 exact absurd (h1.ty h2) (by decide)
theorem P5.s2 {B : Nat} {w0 : World} {a b c d : Nat} {u x : Vt} {y : Rt} {l2 l3 : Bool} {w w' : World} (h : P5 B w0 a b c d u x y l2 l3 w) (hac : a ≠ c) (hB : B ≤ c) (hd : VB w' c x) (ho : Only c w w') : P5 B w0 a b c d u x y true l3 w' := by
 obtain ⟨z, hz, _⟩ := h.vc
 obtain ⟨z2, hz2, h2⟩ := h.rd
 exact ⟨h.k.trans (Kt.md ho.md hB hz.2 (by simp)), ho.vb h.va hac, ho.rb h.rb (Ne.symm (hz.rne h.rb)), ⟨x, hd, fun _ => rfl⟩, ⟨z2, ho.rb hz2 (Ne.symm (hz.rne hz2)), h2⟩⟩
theorem P5.s3 {B : Nat} {w0 : World} {a b c d : Nat} {u x : Vt} {y : Rt} {l2 l3 : Bool} {w w' : World} (h : P5 B w0 a b c d u x y l2 l3 w) (hbd : b ≠ d) (hB : B ≤ d) (hd : RB w' d y) (ho : Only d w w') : P5 B w0 a b c d u x y l2 true w' := by
 obtain ⟨z, hz, h1⟩ := h.vc
 obtain ⟨z2, hz2, _⟩ := h.rd
 exact ⟨h.k.trans (Kt.md ho.md hB hz2.2 (by simp)), ho.vb h.va (h.va.rne hz2), ho.rb h.rb hbd, ⟨z, ho.vb hz (hz.rne hz2), h1⟩, ⟨y, hd, fun _ => rfl⟩⟩
theorem P5.ext {B : Nat} {w0 : World} {a b c d : Nat} {u x : Vt} {y : Rt} {l2 l3 : Bool} {w w' : World} (h : P5 B w0 a b c d u x y l2 l3 w) (k : Ex w w') (hB : B ≤ w.heap.size) : P5 B w0 a b c d u x y l2 l3 w' := by
 obtain ⟨z, hz, h1⟩ := h.vc
 obtain ⟨z2, hz2, h2⟩ := h.rd
 exact ⟨h.k.trans (k.kt hB), h.va.ext k, h.rb.ext k, ⟨z, hz.ext k, h1⟩, ⟨z2, hz2.ext k, h2⟩⟩
theorem P5.start {B : Nat} {w0 : World} {a b c d : Nat} {u x z : Vt} {y z2 : Rt} (hB : B ≤ w0.heap.size) (va : VB w0 a u) (rb : RB w0 b y) (vc : VB w0 c z) (rd : RB w0 d z2) : P5 B w0 a b c d u x y false false w0.drew := by
 have k : Ex w0 w0.drew := (Below.refl w0.heap.size w0).drew
 exact ⟨k.kt hB, va.ext k, rb.ext k, ⟨z, vc.ext k, fun e => by cases e⟩, ⟨z2, rd.ext k, fun e => by cases e⟩⟩
set_option maxHeartbeats 4000000 in
set_option maxRecDepth 100000 in
/-- the pair that is returned: a vault and a reply into their places, a bool -/
theorem ret5 {w0 : World} {id : Nat} {Q : Exit → Act → World → Prop} {a0 : Act} {u0 u1 u4 tv tr tc td : Tmp} {bo : Bool} {y0 y1 y2 y3 y4 : TypeId} {p0 p1 p2 p3 p4 : String} {f0 f1 f2 f3 f4 : Array Edge} {l : List Oper} {B a b c d : Nat} {x : Vt} {y : Rt}
  (HP : P5 B w0 a b c d x x y false false w0.drew) (hac : a ≠ c) (hbd : b ≠ d) (hc : B ≤ c) (hd : B ≤ d)
  (hl : l = [⟨some u0, .load 36 (.tmp tv), y0, p0, f0, none⟩, ⟨some u1, .load 83 (.tmp tr), y1, p1, f1, none⟩, ⟨none, .store 36 (.tmp tc) (.tmp u0), y2, p2, f2, none⟩, ⟨none, .store 83 (.tmp td) (.tmp u1), y3, p3, f3, none⟩, ⟨some u4, .assign (.const (.bool bo)), y4, p4, f4, none⟩])
  (h1 : backB l.toArray = true) (h2 : dstB l.toArray = true) (h3 : fitB l.toArray a0.tmps.size = true) (h4 : (outB l.toArray tv && outB l.toArray tr && outB l.toArray tc && outB l.toArray td) = true)
  (e2 : (⟨0, .data⟩ : Edge) ∈ f2) (e3 : (⟨1, .data⟩ : Edge) ∈ f3)
  (v0 : a0.tmps.getD tv undef = .pointer (some ⟨a, 0, none⟩)) (v1 : a0.tmps.getD tr undef = .pointer (some ⟨b, 0, none⟩)) (v2 : a0.tmps.getD tc undef = .pointer (some ⟨c, 0, none⟩)) (v3 : a0.tmps.getD td undef = .pointer (some ⟨d, 0, none⟩))
  (L : ∀ (f : Nat → Value) (wz : World), f 4 = .bool bo → VB wz c x → RB wz d y → Kt TVR B w0 wz → Q .normal (putAll f 0 l a0) wz) :
  Code.wp Try.prog (Code.region id l.toArray true) Q a0 w0 := by
 simp only [Bool.and_eq_true] at h4
 obtain ⟨⟨⟨o1, o2⟩, o3⟩, o4⟩ := h4
 subst hl
 obtain ⟨T, hT⟩ : ∃ T : List (Value → Prop), T = [(fun zz => zz = x.V), (fun zz => zz = y.V), (fun _ => True), (fun _ => True), (fun zz => zz = .bool bo)] := ⟨_, rfl⟩
 refine wp_region_gen (JS T ([] : List (Nat × Nat)) (fun l _ w => P5 B w0 a b c d x x y (l.getD 2 false) (l.getD 3 false) w)) (by kernel_rfl) h1 h2 (fitB_spec h3) (fun listed f h => JS.start listed f h (by rw [h 2, h 3]; exact HP)) ?_ ?_
 ·intro i o ho
  have hi : i < 5 := (Array.getElem?_eq_some_iff.1 ho).1
  have hi' : i = 0 ∨ i = 1 ∨ i = 2 ∨ i = 3 ∨ i = 4 := by omega
  clear hi
  rcases hi' with rfl | rfl | rfl | rfl | rfl
  all_goals (simp only [List.getElem?_toArray, List.getElem?_cons_zero, List.getElem?_cons_succ, Option.some.injEq] at ho; subst ho; intro listed f a wz hJ hsz hls hun hdep hout hlat; rw [if_pos (by rfl)]; intro K hK)
  ·exact ld_v _ _ x rfl ((hout tv (outB_spec o1)).trans v0) (P5.va hJ.st) (hK _ _ (hJ.next (by rw [hls]; simp) (by rw [hT]; rfl) (by rw [gset (by decide) false, gset (by decide) false]; exact hJ.st) (no_head (by decide))))
  ·exact ld_r _ _ y rfl ((hout tr (outB_spec o2)).trans v1) (P5.rb hJ.st) (hK _ _ (hJ.next (by rw [hls]; simp) (by rw [hT]; rfl) (by rw [gset (by decide) false, gset (by decide) false]; exact hJ.st) (no_head (by decide))))
  ·have q := hJ.is hT (hdep ⟨0, .data⟩ e2 rfl) rfl _ rfl _ rfl
   obtain ⟨z, hz, _⟩ := P5.vc hJ.st
   exact st_v _ _ _ x rfl ((hout tc (outB_spec o3)).trans v2) q (P5.va hJ.st).1 hz.2 (by rw [List.size_toArray, Vt.len hz.1]) (fun wst hds ho => hK _ _ (hJ.next (by rw [hls]; simp) (by rw [hT]; trivial) (by rw [set_new (by rw [hls]; simp), gset (by decide) false]; exact P5.s2 hJ.st hac hc hds ho) (no_head (by decide))))
  ·have q := hJ.is hT (hdep ⟨1, .data⟩ e3 rfl) rfl _ rfl _ rfl
   obtain ⟨z, hz, _⟩ := P5.rd hJ.st
   exact st_r _ _ _ y rfl ((hout td (outB_spec o4)).trans v3) q (P5.rb hJ.st).1 hz.2 (by rw [List.size_toArray, Rt.len hz.1]) (fun wst hds ho => hK _ _ (hJ.next (by rw [hls]; simp) (by rw [hT]; trivial) (by rw [set_new (by rw [hls]; simp), gset (by decide) false]; exact P5.s3 hJ.st hbd hd hds ho) (no_head (by decide))))
  clear hsz hdep hout hlat
  go_simp
  exact hK _ _ (hJ.next (by rw [hls]; simp) (by rw [hT]; rfl) (by rw [gset (by decide) false, gset (by decide) false]; exact hJ.st) (no_head (by decide)))
 intro listed f wz hall hJ
 have f4 := hJ.vals 4 (hall 4 (by simp))
 rw [hT] at f4
 have hst := hJ.st
 rw [hall 2 (by simp), hall 3 (by simp)] at hst
 obtain ⟨z2, hz2, ez2⟩ := hst.vc
 obtain ⟨z3, hz3, ez3⟩ := hst.rd
 rw [ez2 rfl] at hz2
 rw [ez3 rfl] at hz3
 exact L f wz f4 hz2 hz3 hst.k
/-- two fields of a reply are stored into -/
structure P6 (w0 : World) (b : Nat) (y : Rt) (g l : Int) (l6 l8 : Bool) (w : World) : Prop where
 md : Md b w0 w
 rb : RB w b { y with gen := if l6 = true then g else y.gen, left := if l8 = true then l else y.left }
def frVt (v : Vt) (q : Qt) : Vt := ⟨q.id, v.gen + 1, q.pin, q.sec, q.lim, 0, q.own, false, false⟩
theorem frVt_ok {v : Vt} {q : Qt} (hv : v.Ok) (hq : q.Ok) (hg : v.gen < 1099511627776) : (frVt v q).Ok := by
 have := hv.gen0
 exact ⟨hq.idN, (by show 0 ≤ v.gen + 1; omega), (by show v.gen + 1 < 18446744073709551616; omega), hq.pinN, hq.lim0, hq.lim1, (by show (-9223372036854775808 : Int) ≤ 0; decide), (by show (0 : Int) ≤ 9223372036854775807; decide), hq.ownN⟩
theorem built_fr (v : Vt) (q : Qt) (hq : q.Ok) : Try.prog.built 36 [(0, digV q.id), (1, .int .u64 (v.gen + 1)), (2, digV q.pin), (3, q.sec.V), (4, .int .i64 q.lim), (6, digV q.own)] = some (frVt v q).C.toArray := by
 obtain ⟨op, id, pin, sec, lim, own, key, client, num⟩ := q
 obtain ⟨a, b, c, d, rfl⟩ := len4 hq.idN
 obtain ⟨_, _, _, _, _, _, _, _, _, _, _, _, _, _, _, _, rfl⟩ := len16 hq.pinN
 obtain ⟨_, _, _, _, _, _, _, _, _, _, _, _, _, _, _, _, rfl⟩ := len16 hq.ownN
 kernel_rfl
set_option maxHeartbeats 8000000 in
set_option maxRecDepth 100000 in
theorem fresh_any (v : Vt) (q : Qt) (w : World) (hv : v.Ok) (hq : q.Ok) (hg : v.gen < 1099511627776) : Calls Try.prog 146 #[v.V, q.V] w fun e w' => e = .returned (frVt v q).V ∧ Ex w w' := by
 obtain ⟨cs, hcs⟩ : ∃ cs, cs = v.C.toArray := ⟨_, rfl⟩
 obtain ⟨ds, hds⟩ : ∃ cs, cs = q.C.toArray := ⟨_, rfl⟩
 have A0 : Hid (VB (((w.alloc (.cells cs 36)).alloc (.cells ds 86)).alloc (.cells zeroVt.C.toArray 36)) w.heap.size v) := Hi ⟨hv, by rw [hcs]; exact ((Bk.new rfl _ _).more _).more _⟩
 have Q0 : Hid (QB (((w.alloc (.cells cs 36)).alloc (.cells ds 86)).alloc (.cells zeroVt.C.toArray 36)) (w.heap.size + 1) q) := Hi ⟨hq, by rw [hds]; exact (Bk.new (by simp) _ _).more _⟩
 have Z0 : Hid (VB (((w.alloc (.cells cs 36)).alloc (.cells ds 86)).alloc (.cells zeroVt.C.toArray 36)) (w.heap.size + 2) zeroVt) := Hi ⟨zeroVt_ok, Bk.new (by simp) _ _⟩
 have BW : Hid (Ex w (((w.alloc (.cells cs 36)).alloc (.cells ds 86)).alloc (.cells zeroVt.C.toArray 36))) := Hi (Ex.trans (Ex.alloc w _) (Ex.trans (Ex.alloc _ _) (Ex.alloc _ _)))
 rw [show (Calls Try.prog 146 #[v.V, q.V] w) = (Calls Try.prog 146 #[.agg cs, .agg ds] w) by rw [hcs, hds]; rfl]
 have HQ := Hi hq
 have HV := Hi hv
 have g0 := hv.gen0
 have HG := Hi hg
 clear hcs hds hv hq
 go_enter Try.func146, Try.ntmps146
 go_wp2_with ((with_reducible refine so0 ?_ ?_); (focus rfl))
 (with_reducible refine ⟨?_⟩)
 change wpList _ _ _ _ _ (((w.alloc (.cells cs 36)).alloc (.cells ds 86)).alloc (.cells zeroVt.C.toArray 36))
 generalize hw1 : (((w.alloc (.cells cs 36)).alloc (.cells ds 86)).alloc (.cells zeroVt.C.toArray 36)) = w1 at *
 clear hw1
 obtain ⟨B, hB⟩ : ∃ B, B = w.heap.size := ⟨_, rfl⟩
 rw [← hB] at A0 Q0 Z0 ⊢
 have HB := Hi hB
 clear hB
 obtain ⟨v4, -⟩ := A0.out.cells
 obtain ⟨-, q21, q22, -, -⟩ := Q0.out.cells
 unfold Pt.V at q21
 go_wp2_with ((with_reducible refine so0 ?_ ?_); (focus rfl))
 refine at9 (by go_simp) fun K0 hK => ld_qid _ _ q rfl rfl Q0.out (hK _ _ ?_)
 clear hK
 go_wp2_with ((with_reducible refine so0 ?_ ?_); (focus rfl))
 refine at9 (by go_simp) fun K0 hK => ld_qpin _ _ q rfl rfl Q0.out (hK _ _ ?_)
 clear hK
 go_wp2_with ((with_reducible refine so0 ?_ ?_); (focus rfl))
 refine at9 (by go_simp) fun K0 hK => ld_qown _ _ q rfl rfl Q0.out (hK _ _ ?_)
 clear hK
 go_wp2_with ((with_reducible refine so0 ?_ ?_); (focus rfl))
 refine at9 (by go_simp) fun K0 hK => wp_build _ _ rfl _ (built_fr v q HQ.out) (hK _ _ ?_)
 clear hK
 go_wp2_with ((with_reducible refine so0 ?_ ?_); (focus rfl))
 refine at9 (by go_simp) fun K0 hK => st_v _ _ (B + 2) (frVt v q) rfl rfl rfl (frVt_ok HV.out HQ.out HG.out) Z0.out.2 (by rw [List.size_toArray, Vt.len Z0.out.1]) (fun w5 hd ho => hK _ _ ?_)
 clear hK
 replace BW := Hi (ho.below w.heap.size (by rw [← HB.out]; omega) w BW.out)
 have D9 := Hi hd
 clear hd ho
 go_wp2_with fail
 exact bodyPost_ret (res_v rfl _ _ (B + 2) rfl (frVt v q) D9.out) rfl ⟨rfl, BW.out⟩
set_option maxHeartbeats 8000000 in
set_option maxRecDepth 100000 in
theorem again_any (v : Vt) (q : Qt) (y : Rt) (w : World) (hv : v.Ok) (hq : q.Ok) (hy : y.Ok) : Calls Try.prog 138 #[v.V, q.V, y.V] w fun e w' => ∃ (v' : Vt) (y' : Rt) (b : Bool), e = .returned (.tuple #[v'.V, y'.V, .bool b]) ∧ ((v.gen ≥ 1099511627776 ∧ v' = v ∧ y' = { y with why := 31 } ∧ b = false) ∨ (v.gen < 1099511627776 ∧ v' = frVt v q ∧ y' = { y with gen := v.gen + 1, left := q.lim } ∧ b = true)) ∧ Ex w w' := by
 by_cases hg : v.gen ≥ 1099511627776
 ·obtain ⟨cs, hcs⟩ : ∃ cs, cs = v.C.toArray := ⟨_, rfl⟩
  obtain ⟨ds, hds⟩ : ∃ cs, cs = q.C.toArray := ⟨_, rfl⟩
  obtain ⟨es, hes⟩ : ∃ cs, cs = y.C.toArray := ⟨_, rfl⟩
  have A0 : Hid (VB (((((w.alloc (.cells cs 36)).alloc (.cells ds 86)).alloc (.cells es 83)).alloc (.cells zeroVt.C.toArray 36)).alloc (.cells zeroRt.C.toArray 83)) w.heap.size v) := Hi ⟨hv, by rw [hcs]; exact ((((Bk.new rfl _ _).more _).more _).more _).more _⟩
  have Q0 : Hid (QB (((((w.alloc (.cells cs 36)).alloc (.cells ds 86)).alloc (.cells es 83)).alloc (.cells zeroVt.C.toArray 36)).alloc (.cells zeroRt.C.toArray 83)) (w.heap.size + 1) q) := Hi ⟨hq, by rw [hds]; exact (((Bk.new (by simp) _ _).more _).more _).more _⟩
  have Y0 : Hid (RB (((((w.alloc (.cells cs 36)).alloc (.cells ds 86)).alloc (.cells es 83)).alloc (.cells zeroVt.C.toArray 36)).alloc (.cells zeroRt.C.toArray 83)) (w.heap.size + 2) y) := Hi ⟨hy, by rw [hes]; exact ((Bk.new (by simp) _ _).more _).more _⟩
  have Z0 : Hid (VB (((((w.alloc (.cells cs 36)).alloc (.cells ds 86)).alloc (.cells es 83)).alloc (.cells zeroVt.C.toArray 36)).alloc (.cells zeroRt.C.toArray 83)) (w.heap.size + 3) zeroVt) := Hi ⟨zeroVt_ok, (Bk.new (by simp) _ _).more _⟩
  have R0 : Hid (RB (((((w.alloc (.cells cs 36)).alloc (.cells ds 86)).alloc (.cells es 83)).alloc (.cells zeroVt.C.toArray 36)).alloc (.cells zeroRt.C.toArray 83)) (w.heap.size + 4) zeroRt) := Hi ⟨zeroRt_ok, Bk.new (by simp) _ _⟩
  have BW : Hid (Ex w (((((w.alloc (.cells cs 36)).alloc (.cells ds 86)).alloc (.cells es 83)).alloc (.cells zeroVt.C.toArray 36)).alloc (.cells zeroRt.C.toArray 83))) := Hi (Ex.trans (Ex.alloc w _) (Ex.trans (Ex.alloc _ _) (Ex.trans (Ex.alloc _ _) (Ex.trans (Ex.alloc _ _) (Ex.alloc _ _)))))
  rw [show (Calls Try.prog 138 #[v.V, q.V, y.V] w) = (Calls Try.prog 138 #[.agg cs, .agg ds, .agg es] w) by rw [hcs, hds, hes]; rfl]
  have HQ := Hi hq
  have HV := Hi hv
  have HY := Hi hy
  have g0 := hv.gen0
  have g1 := hv.gen1
  clear hcs hds hes hv hq hy
  go_enter Try.func138, Try.ntmps138
  go_wp2_with ((with_reducible refine so2 [24] ?_ ?_); (focus rfl))
  (with_reducible refine ⟨?_⟩)
  change wpList _ _ _ _ _ (((((w.alloc (.cells cs 36)).alloc (.cells ds 86)).alloc (.cells es 83)).alloc (.cells zeroVt.C.toArray 36)).alloc (.cells zeroRt.C.toArray 83))
  generalize hw1 : (((((w.alloc (.cells cs 36)).alloc (.cells ds 86)).alloc (.cells es 83)).alloc (.cells zeroVt.C.toArray 36)).alloc (.cells zeroRt.C.toArray 83)) = w1 at *
  clear hw1
  obtain ⟨B, hB⟩ : ∃ B, B = w.heap.size := ⟨_, rfl⟩
  rw [← hB] at A0 Q0 Y0 Z0 R0 ⊢
  have HB := Hi hB
  clear hB
  obtain ⟨v4, v21, v22, v23, v40, v41⟩ := A0.out.cells
  unfold Pt.V at v21
  go_wp2_with ((with_reducible refine so2 [1000+45] ?_ ?_); (focus rfl))
  refine at9 (by go_simp) fun K0 hK => st_rwhy (by kernel_rfl) _ _ (B + 2) y 31 rfl rfl rfl (by decide) (by decide) Y0.out (fun w2 hd ho => hK _ _ ?_)
  clear hK
  obtain ⟨yn, hy2⟩ : ∃ x : Rt, x = { y with why := 31 } := ⟨_, rfl⟩
  rw [← hy2] at hd
  have HY2 := Hi hy2
  replace A0 := Hi (ho.vb A0.out (by omega))
  replace Z0 := Hi (ho.vb Z0.out (by omega))
  replace R0 := Hi (ho.rb R0.out (by omega))
  replace BW := Hi (ho.below w.heap.size (by rw [← HB.out]; omega) w BW.out)
  replace Y0 := Hi hd
  clear hd ho Q0 hy2 v4 v21 v22 v23 v40 v41
  go_wp2_with fail
  have hsz : B ≤ w2.heap.size := Nat.le_of_lt A0.out.lt
  have HP : Hid (P5 B w2 B (B + 2) (B + 3) (B + 4) v v yn false false w2.drew) := Hi (P5.start hsz A0.out Y0.out Z0.out R0.out)
  refine ret5 HP.out (by omega) (by omega) (by omega) (by omega) rfl (by kernel_rfl) (by kernel_rfl) (by kernel_rfl) (by kernel_rfl) (by simp) (by simp) rfl rfl rfl rfl ?_
  ·intro f wz f4 hz2 hz3 hk5
   simp only [putAll, Act.put, List.setIfInBounds_toArray, List.set_cons_zero, List.set_cons_succ, Nat.zero_add, Nat.reduceAdd]
   rw [f4]
   clear f4
   go_wp2_with fail
   refine bodyPost_ret (res_vr rfl _ _ (B + 3) (B + 4) rfl rfl v yn hz2 hz3) rfl ⟨v, yn, false, rfl, ?_, (show Ex w wz from Below.trans BW.out (by rw [← HB.out]; exact hk5.below))⟩
   exact Or.inl ⟨hg, rfl, HY2.out, rfl⟩
 obtain ⟨cs, hcs⟩ : ∃ cs, cs = v.C.toArray := ⟨_, rfl⟩
 obtain ⟨ds, hds⟩ : ∃ cs, cs = q.C.toArray := ⟨_, rfl⟩
 obtain ⟨es, hes⟩ : ∃ cs, cs = y.C.toArray := ⟨_, rfl⟩
 have A0 : Hid (VB (((((w.alloc (.cells cs 36)).alloc (.cells ds 86)).alloc (.cells es 83)).alloc (.cells zeroVt.C.toArray 36)).alloc (.cells zeroRt.C.toArray 83)) w.heap.size v) := Hi ⟨hv, by rw [hcs]; exact ((((Bk.new rfl _ _).more _).more _).more _).more _⟩
 have Q0 : Hid (QB (((((w.alloc (.cells cs 36)).alloc (.cells ds 86)).alloc (.cells es 83)).alloc (.cells zeroVt.C.toArray 36)).alloc (.cells zeroRt.C.toArray 83)) (w.heap.size + 1) q) := Hi ⟨hq, by rw [hds]; exact (((Bk.new (by simp) _ _).more _).more _).more _⟩
 have Y0 : Hid (RB (((((w.alloc (.cells cs 36)).alloc (.cells ds 86)).alloc (.cells es 83)).alloc (.cells zeroVt.C.toArray 36)).alloc (.cells zeroRt.C.toArray 83)) (w.heap.size + 2) y) := Hi ⟨hy, by rw [hes]; exact ((Bk.new (by simp) _ _).more _).more _⟩
 have Z0 : Hid (VB (((((w.alloc (.cells cs 36)).alloc (.cells ds 86)).alloc (.cells es 83)).alloc (.cells zeroVt.C.toArray 36)).alloc (.cells zeroRt.C.toArray 83)) (w.heap.size + 3) zeroVt) := Hi ⟨zeroVt_ok, (Bk.new (by simp) _ _).more _⟩
 have R0 : Hid (RB (((((w.alloc (.cells cs 36)).alloc (.cells ds 86)).alloc (.cells es 83)).alloc (.cells zeroVt.C.toArray 36)).alloc (.cells zeroRt.C.toArray 83)) (w.heap.size + 4) zeroRt) := Hi ⟨zeroRt_ok, Bk.new (by simp) _ _⟩
 have BW : Hid (Ex w (((((w.alloc (.cells cs 36)).alloc (.cells ds 86)).alloc (.cells es 83)).alloc (.cells zeroVt.C.toArray 36)).alloc (.cells zeroRt.C.toArray 83))) := Hi (Ex.trans (Ex.alloc w _) (Ex.trans (Ex.alloc _ _) (Ex.trans (Ex.alloc _ _) (Ex.trans (Ex.alloc _ _) (Ex.alloc _ _)))))
 rw [show (Calls Try.prog 138 #[v.V, q.V, y.V] w) = (Calls Try.prog 138 #[.agg cs, .agg ds, .agg es] w) by rw [hcs, hds, hes]; rfl]
 have HQ := Hi hq
 have HV := Hi hv
 have HY := Hi hy
 have g0 := hv.gen0
 have g1 := hv.gen1
 clear hcs hds hes hv hq hy
 go_enter Try.func138, Try.ntmps138
 go_wp2_with ((with_reducible refine so2 [24] ?_ ?_); (focus rfl))
 (with_reducible refine ⟨?_⟩)
 change wpList _ _ _ _ _ (((((w.alloc (.cells cs 36)).alloc (.cells ds 86)).alloc (.cells es 83)).alloc (.cells zeroVt.C.toArray 36)).alloc (.cells zeroRt.C.toArray 83))
 generalize hw1 : (((((w.alloc (.cells cs 36)).alloc (.cells ds 86)).alloc (.cells es 83)).alloc (.cells zeroVt.C.toArray 36)).alloc (.cells zeroRt.C.toArray 83)) = w1 at *
 clear hw1
 obtain ⟨B, hB⟩ : ∃ B, B = w.heap.size := ⟨_, rfl⟩
 rw [← hB] at A0 Q0 Y0 Z0 R0 ⊢
 have HB := Hi hB
 clear hB
 obtain ⟨v4, v21, v22, v23, v40, v41⟩ := A0.out.cells
 unfold Pt.V at v21
 obtain ⟨-, -, q22, -, -⟩ := Q0.out.cells
 go_wp2_with ((with_reducible refine so2 [1000+45] ?_ ?_); (focus rfl))
 clear v4 v21 v22 v23 v40 v41 q22
 have hsz : B ≤ w1.heap.size := Nat.le_of_lt A0.out.lt
 have hgl : v.gen < 1099511627776 := by omega
 have hS0 : ∀ (listed : Array Bool) (_ : Nat → Value), (∀ i, listed.getD i false = false) → P6 w1 (B + 2) y (v.gen + 1) q.lim (listed.getD 6 false) (listed.getD 8 false) w1.drew := fun listed _ h0 => by
  have k : Ex w1 w1.drew := (Below.refl w1.heap.size w1).drew
  rw [h0 6, h0 8]; exact ⟨Ex.md k (Nat.le_of_lt Y0.out.lt), Y0.out.ext k⟩
 obtain ⟨T, hT⟩ : ∃ T : List (Value → Prop), T = [(fun zz => zz = .pointer (some ⟨B, 4, none⟩)), (fun zz => zz = .int .u64 v.gen), (fun zz => zz = .int .u64 (v.gen + 1)), (fun zz => zz = .pointer (some ⟨B + 1, 22, none⟩)), (fun zz => zz = .int .i64 q.lim), (fun zz => zz = .pointer (some ⟨B + 2, 5, none⟩)), (fun _ => True), (fun zz => zz = .pointer (some ⟨B + 2, 6, none⟩)), (fun _ => True)] := ⟨_, rfl⟩
 refine wp_region_gen (JS T ([] : List (Nat × Nat)) (fun listed _ w => P6 w1 (B + 2) y (v.gen + 1) q.lim (listed.getD 6 false) (listed.getD 8 false) w)) (by kernel_rfl) (by kernel_rfl) (by kernel_rfl) (fitB_spec (by kernel_rfl)) (fun listed f h => JS.start listed f h (hS0 listed f h)) ?_ ?_
 ·intro i o ho
  have hi : i < 9 := (Array.getElem?_eq_some_iff.1 ho).1
  have hi' : i = 0 ∨ i = 1 ∨ i = 2 ∨ i = 3 ∨ i = 4 ∨ i = 5 ∨ i = 6 ∨ i = 7 ∨ i = 8 := by omega
  clear hi
  rcases hi' with rfl | rfl | rfl | rfl | rfl | rfl | rfl | rfl | rfl
  all_goals (simp only [List.getElem?_toArray, List.getElem?_cons_zero, List.getElem?_cons_succ, Option.some.injEq] at ho; subst ho; intro listed f a wz hJ hsz hls hun hdep hout hlat; first | (rw [if_pos (by rfl)]; intro K hK) | skip)
  ·have q3 := hout 3 (outB_spec (by kernel_rfl))
   rw [Array.getD_eq_getD_getElem?] at q3
   clear hsz hdep hout hlat
   go_simp
   exact hK _ _ (hJ.nx hls hT rfl rfl (by show P6 w1 (B + 2) y (v.gen + 1) q.lim ((listed.setIfInBounds 0 true).getD 6 false) ((listed.setIfInBounds 0 true).getD 8 false) _; rw [gset (by decide) false, gset (by decide) false]; exact hJ.st) (no_head (by decide)))
  ·have q15 := hJ.iq hT (hdep ⟨0, .data⟩ (by simp) rfl) rfl _ rfl _ rfl
   obtain ⟨v4, -⟩ := VB.cells ((P6.md hJ.st).vb A0.out (by omega))
   clear hsz hdep hout hlat
   go_simp
   exact hK _ _ (hJ.nx hls hT rfl rfl (by show P6 w1 (B + 2) y (v.gen + 1) q.lim ((listed.setIfInBounds 1 true).getD 6 false) ((listed.setIfInBounds 1 true).getD 8 false) _; rw [gset (by decide) false, gset (by decide) false]; exact hJ.st) (no_head (by decide)))
  ·have q16 := hJ.iq hT (hdep ⟨1, .data⟩ (by simp) rfl) rfl _ rfl _ rfl
   clear hsz hdep hout hlat
   go_simp
   exact hK _ _ (hJ.nx hls hT rfl (by first | rfl | exact int_eq (by omega) | exact int_eq (by rw [IntKind.wrap_i64]; omega) | exact congrArg (Value.int .u64) (by omega) | exact congrArg (Value.int .u64) (by simp only [IntKind.wrap, IntKind.bits, IntKind.signed]; simp; omega)) (by show P6 w1 (B + 2) y (v.gen + 1) q.lim ((listed.setIfInBounds 2 true).getD 6 false) ((listed.setIfInBounds 2 true).getD 8 false) _; rw [gset (by decide) false, gset (by decide) false]; exact hJ.st) (no_head (by decide)))
  ·have q4 := hout 4 (outB_spec (by kernel_rfl))
   rw [Array.getD_eq_getD_getElem?] at q4
   clear hsz hdep hout hlat
   go_simp
   exact hK _ _ (hJ.nx hls hT rfl rfl (by show P6 w1 (B + 2) y (v.gen + 1) q.lim ((listed.setIfInBounds 3 true).getD 6 false) ((listed.setIfInBounds 3 true).getD 8 false) _; rw [gset (by decide) false, gset (by decide) false]; exact hJ.st) (no_head (by decide)))
  ·have q18 := hJ.iq hT (hdep ⟨3, .data⟩ (by simp) rfl) rfl _ rfl _ rfl
   obtain ⟨-, -, q22, -, -⟩ := QB.cells ((P6.md hJ.st).qb Q0.out (by omega))
   clear hsz hdep hout hlat
   go_simp
   exact hK _ _ (hJ.nx hls hT rfl rfl (by show P6 w1 (B + 2) y (v.gen + 1) q.lim ((listed.setIfInBounds 4 true).getD 6 false) ((listed.setIfInBounds 4 true).getD 8 false) _; rw [gset (by decide) false, gset (by decide) false]; exact hJ.st) (no_head (by decide)))
  ·have q5 := hout 5 (outB_spec (by kernel_rfl))
   rw [Array.getD_eq_getD_getElem?] at q5
   clear hsz hdep hout hlat
   go_simp
   exact hK _ _ (hJ.nx hls hT rfl rfl (by show P6 w1 (B + 2) y (v.gen + 1) q.lim ((listed.setIfInBounds 5 true).getD 6 false) ((listed.setIfInBounds 5 true).getD 8 false) _; rw [gset (by decide) false, gset (by decide) false]; exact hJ.st) (no_head (by decide)))
  ·have q20 := hJ.is hT (hdep ⟨5, .data⟩ (by simp) rfl) rfl _ rfl _ rfl
   have q17 := hJ.is hT (hdep ⟨2, .data⟩ (by simp) rfl) rfl _ rfl _ rfl
   have hk := hJ.st
   have rb := P6.rb hk
   rw [hun] at rb
   exact st_rgen (by kernel_rfl) _ _ (B + 2) _ (v.gen + 1) rfl q20 q17 (by omega) (by omega) rb (fun w5 hd ho => hK _ _ (hJ.nx hls hT rfl (by trivial) (by show P6 w1 (B + 2) y (v.gen + 1) q.lim ((listed.setIfInBounds 6 true).getD 6 false) ((listed.setIfInBounds 6 true).getD 8 false) _; rw [set_new (by rw [hls]; decide), gset (by decide) false]; exact ⟨(P6.md hk).trans ho.md, hd⟩) (no_head (by decide))))
  ·have q5 := hout 5 (outB_spec (by kernel_rfl))
   rw [Array.getD_eq_getD_getElem?] at q5
   clear hsz hdep hout hlat
   go_simp
   exact hK _ _ (hJ.nx hls hT rfl rfl (by show P6 w1 (B + 2) y (v.gen + 1) q.lim ((listed.setIfInBounds 7 true).getD 6 false) ((listed.setIfInBounds 7 true).getD 8 false) _; rw [gset (by decide) false, gset (by decide) false]; exact hJ.st) (no_head (by decide)))
  have q21 := hJ.is hT (hdep ⟨7, .data⟩ (by simp) rfl) rfl _ rfl _ rfl
  have q19 := hJ.is hT (hdep ⟨4, .data⟩ (by simp) rfl) rfl _ rfl _ rfl
  have hk := hJ.st
  have rb := P6.rb hk
  rw [hun] at rb
  exact st_rleft (by kernel_rfl) _ _ (B + 2) _ q.lim rfl q21 q19 HQ.out.lim0 HQ.out.lim1 rb (fun w5 hd ho => hK _ _ (hJ.nx hls hT rfl (by trivial) (by show P6 w1 (B + 2) y (v.gen + 1) q.lim ((listed.setIfInBounds 8 true).getD 6 false) ((listed.setIfInBounds 8 true).getD 8 false) _; rw [gset (by decide) false, set_new (by rw [hls]; decide)]; exact ⟨(P6.md hk).trans ho.md, hd⟩) (no_head (by decide))))
 intro listed f wz hall hJ
 have hst := hJ.st
 simp only [putAll, Act.put, List.setIfInBounds_toArray, List.set_cons_zero, List.set_cons_succ, Nat.zero_add, Nat.reduceAdd]
 have hst : P6 w1 (B + 2) y (v.gen + 1) q.lim (listed.getD 6 false) (listed.getD 8 false) wz := hst
 rw [hall 6 (by simp), hall 8 (by simp)] at hst
 obtain ⟨yn, hy2⟩ : ∃ x : Rt, x = { y with gen := v.gen + 1, left := q.lim } := ⟨_, rfl⟩
 have HY2 := Hi hy2
 have Y2 : Hid (RB wz (B + 2) yn) := Hi (by rw [hy2]; exact hst.rb)
 have md := hst.md
 replace A0 := Hi (md.vb A0.out (by omega))
 replace Q0 := Hi (md.qb Q0.out (by omega))
 replace Z0 := Hi (md.vb Z0.out (by omega))
 replace R0 := Hi (md.rb R0.out (by omega))
 replace BW := Hi (md.below w.heap.size (by rw [← HB.out]; omega) w BW.out)
 clear md hst hy2
 clear hJ hall hT
 clear hS0 Y0 hsz
 go_wp2_with fail
 have hS0 : ∀ (listed : Array Bool) (_ : Nat → Value), (∀ i, listed.getD i false = false) → P5 B wz B (B + 2) (B + 3) (B + 4) v (frVt v q) yn (listed.getD 4 false) (listed.getD 5 false) wz.drew := fun listed _ h0 => by rw [h0 4, h0 5]; exact P5.start (Nat.le_of_lt A0.out.lt) A0.out Y2.out Z0.out R0.out
 obtain ⟨T, hT⟩ : ∃ T : List (Value → Prop), T = [(fun zz => zz = v.V), (fun zz => zz = q.V), (fun zz => zz = (frVt v q).V), (fun zz => zz = yn.V), (fun _ => True), (fun _ => True), (fun zz => zz = .bool true)] := ⟨_, rfl⟩
 refine wp_region_gen (JS T ([] : List (Nat × Nat)) (fun listed _ w => P5 B wz B (B + 2) (B + 3) (B + 4) v (frVt v q) yn (listed.getD 4 false) (listed.getD 5 false) w)) (by kernel_rfl) (by kernel_rfl) (by kernel_rfl) (fitB_spec (by kernel_rfl)) (fun listed f h => JS.start listed f h (hS0 listed f h)) ?_ ?_
 ·intro i o ho
  have hi : i < 7 := (Array.getElem?_eq_some_iff.1 ho).1
  have hi' : i = 0 ∨ i = 1 ∨ i = 2 ∨ i = 3 ∨ i = 4 ∨ i = 5 ∨ i = 6 := by omega
  clear hi
  rcases hi' with rfl | rfl | rfl | rfl | rfl | rfl | rfl
  all_goals (simp only [List.getElem?_toArray, List.getElem?_cons_zero, List.getElem?_cons_succ, Option.some.injEq] at ho; subst ho; intro listed f a wy hJ hsz hls hun hdep hout hlat; first | (rw [if_pos (by rfl)]; intro K hK) | skip)
  ·have q3 := hout 3 (outB_spec (by kernel_rfl))
   exact ld_v _ B v rfl q3 (P5.va hJ.st) (hK _ _ (hJ.nx hls hT rfl rfl (by show P5 B wz B (B + 2) (B + 3) (B + 4) v (frVt v q) yn ((listed.setIfInBounds 0 true).getD 4 false) ((listed.setIfInBounds 0 true).getD 5 false) _; rw [gset (by decide) false, gset (by decide) false]; exact hJ.st) (no_head (by decide))))
  ·have q4 := hout 4 (outB_spec (by kernel_rfl))
   exact ld_q _ (B + 1) q rfl q4 ⟨HQ.out, (P5.k hJ.st).bk Q0.out.2 (by decide)⟩ (hK _ _ (hJ.nx hls hT rfl rfl (by show P5 B wz B (B + 2) (B + 3) (B + 4) v (frVt v q) yn ((listed.setIfInBounds 1 true).getD 4 false) ((listed.setIfInBounds 1 true).getD 5 false) _; rw [gset (by decide) false, gset (by decide) false]; exact hJ.st) (no_head (by decide))))
  ·have q22 := hJ.iq hT (hdep ⟨0, .data⟩ (by simp) rfl) rfl _ rfl _ rfl
   have q23 := hJ.iq hT (hdep ⟨1, .data⟩ (by simp) rfl) rfl _ rfl _ rfl
   clear hsz hdep hout hlat
   go_simp
   refine (fresh_any v q wy HV.out HQ.out hgl).mono ?_
   rintro e wq ⟨rfl, xq⟩
   exact hK _ _ (hJ.nx hls hT rfl rfl (by show P5 B wz B (B + 2) (B + 3) (B + 4) v (frVt v q) yn ((listed.setIfInBounds 2 true).getD 4 false) ((listed.setIfInBounds 2 true).getD 5 false) _; rw [gset (by decide) false, gset (by decide) false]; exact P5.ext hJ.st xq (by have := (P5.va hJ.st).lt; omega)) (no_head (by decide)))
  ·have q5 := hout 5 (outB_spec (by kernel_rfl))
   exact ld_r _ (B + 2) yn rfl q5 (P5.rb hJ.st) (hK _ _ (hJ.nx hls hT rfl rfl (by show P5 B wz B (B + 2) (B + 3) (B + 4) v (frVt v q) yn ((listed.setIfInBounds 3 true).getD 4 false) ((listed.setIfInBounds 3 true).getD 5 false) _; rw [gset (by decide) false, gset (by decide) false]; exact hJ.st) (no_head (by decide))))
  ·have q6 := hout 6 (outB_spec (by kernel_rfl))
   have q24 := hJ.is hT (hdep ⟨2, .data⟩ (by simp) rfl) rfl _ rfl _ rfl
   obtain ⟨z, hz, _⟩ := P5.vc hJ.st
   exact st_v _ _ (B + 3) (frVt v q) rfl q6 q24 (frVt_ok HV.out HQ.out hgl) hz.2 (by rw [List.size_toArray, Vt.len hz.1]) (fun w5 hd ho => hK _ _ (hJ.nx hls hT rfl (by trivial) (by show P5 B wz B (B + 2) (B + 3) (B + 4) v (frVt v q) yn ((listed.setIfInBounds 4 true).getD 4 false) ((listed.setIfInBounds 4 true).getD 5 false) _; rw [set_new (by rw [hls]; decide), gset (by decide) false]; exact P5.s2 hJ.st (by omega) (by omega) hd ho) (no_head (by decide))))
  ·have q7 := hout 7 (outB_spec (by kernel_rfl))
   have q25 := hJ.is hT (hdep ⟨3, .data⟩ (by simp) rfl) rfl _ rfl _ rfl
   obtain ⟨z, hz, _⟩ := P5.rd hJ.st
   exact st_r _ _ (B + 4) yn rfl q7 q25 (P5.rb hJ.st).1 hz.2 (by rw [List.size_toArray, Rt.len hz.1]) (fun w5 hd ho => hK _ _ (hJ.nx hls hT rfl (by trivial) (by show P5 B wz B (B + 2) (B + 3) (B + 4) v (frVt v q) yn ((listed.setIfInBounds 5 true).getD 4 false) ((listed.setIfInBounds 5 true).getD 5 false) _; rw [set_new (by rw [hls]; decide), gset (by decide) false]; exact P5.s3 hJ.st (by omega) (by omega) hd ho) (no_head (by decide))))
  clear hsz hdep hout hlat
  go_simp
  exact hK _ _ (hJ.nx hls hT rfl rfl (by show P5 B wz B (B + 2) (B + 3) (B + 4) v (frVt v q) yn ((listed.setIfInBounds 6 true).getD 4 false) ((listed.setIfInBounds 6 true).getD 5 false) _; rw [gset (by decide) false, gset (by decide) false]; exact hJ.st) (no_head (by decide)))
 intro listed f wy hall hJ
 have f6 : f 6 = .bool true := by
  have h := hJ.vals 6 (hall 6 (by simp))
  rw [hT] at h; exact h
 have hst := hJ.st
 simp only [putAll, Act.put, List.setIfInBounds_toArray, List.set_cons_zero, List.set_cons_succ, Nat.zero_add, Nat.reduceAdd]
 have hst : P5 B wz B (B + 2) (B + 3) (B + 4) v (frVt v q) yn (listed.getD 4 false) (listed.getD 5 false) wy := hst
 rw [hall 4 (by simp), hall 5 (by simp)] at hst
 obtain ⟨z2, hz2, ez2⟩ := hst.vc
 obtain ⟨z3, hz3, ez3⟩ := hst.rd
 rw [ez2 rfl] at hz2
 rw [ez3 rfl] at hz3
 have hk5 := hst.k
 clear ez2 ez3 hst
 rw [f6]
 clear f6
 clear hJ hall hT
 go_wp2_with fail
 refine bodyPost_ret (res_vr rfl _ _ (B + 3) (B + 4) rfl rfl (frVt v q) yn hz2 hz3) rfl ⟨frVt v q, yn, true, rfl, ?_, (show Ex w wy from Below.trans BW.out (by rw [← HB.out]; exact hk5.below))⟩
 exact Or.inr ⟨hgl, rfl, HY2.out, rfl⟩
end Go.Proofs.Ytmjfnpmnhehnkaa
