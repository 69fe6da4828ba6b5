/- Jg, Jc -/
import Derived.Test.YtmjfnpmnhehnkaaXbe
import Derived.DeepKeys3
import Derived.WideKeyPair
import Derived.WideKeyElems
import Derived.ChangeMaps3
namespace Go.Proofs.Ytmjfnpmnhehnkaa
open Go.RowKit
structure S81 (w0 : World) (M : Nat) (D : Nat → Nat) (g : Nat) (x : Dt) (Xk Xn : List Vt) (Y : Rc) (l : Array Bool) (f : Nat → Value) (w : World) : Prop where
 bk : Bk w g 149 x.C.toArray
 ex : Ex w0 w
 di : DI9 w x
 a : l.getD 3 false = false → IRE w w0.heap.size M D Xk
 b : l.getD 3 false = true → ∃ y : Rt, f 3 = y.V ∧ y.ct = Y ∧ RI w y ∧ IRE w w0.heap.size M D Xn
theorem S81.next {w0 : World} {M : Nat} {D : Nat → Nat} {g : Nat} {x : Dt} {Xk Xn : List Vt} {Y : Rc} {l : Array Bool} {f : Nat → Value} {w w' : World} (h : S81 w0 M D g x Xk Xn Y l f w) (k : Ex w w') (i : Nat) (v : Value) (hi : i ≠ 3) : S81 w0 M D g x Xk Xn Y (l.setIfInBounds i true) (upd f i v) w' :=
 ⟨h.bk.ext k, Ex.trans h.ex k, h.di.ext k, fun e => (h.a (by rw [gset hi false] at e; exact e)).ext k, fun e => by
  rw [gset hi false] at e
  obtain ⟨y, h1, h2, h3, h4⟩ := h.b e
  exact ⟨y, by rw [upd_ne _ _ (Ne.symm hi)]; exact h1, h2, h3.ext k, h4.ext k⟩⟩
theorem S81.do {w0 : World} {M : Nat} {D : Nat → Nat} {g : Nat} {x : Dt} {Xk Xn : List Vt} {Y : Rc} {l : Array Bool} {f : Nat → Value} {w w' : World} {y : Rt} (h : S81 w0 M D g x Xk Xn Y l f w) (hl : 3 < l.size) (h0 : DI9 w0 x) (h2 : y.ct = Y) (h3 : RI w' y) (h4 : IRE w' w0.heap.size M D Xn) (h5 : Ex w0 w') (h6 : ∀ (g : Nat) (t : TypeId) (cs : Array Value), Bk w g t cs → t ≠ 169 → t ≠ 36 → Bk w' g t cs) : S81 w0 M D g x Xk Xn Y (l.setIfInBounds 3 true) (upd f 3 y.V) w' :=
 ⟨h6 _ _ _ h.bk (by decide) (by decide), h5, h0.ext h5, fun e => by (rw [set_new hl] at e; cases e), fun _ => ⟨y, upd_same _ _ _, h2, h3, h4⟩⟩
def CheckPost (l : List Dt) (Y : Nat → Rc) (w : World) (e : Ending) (w' : World) : Prop := ∃ n : Int, e = .returned (.int .i64 n) ∧ FirstBad l Y n ∧ Ex w w'
def FinalPost (xs : List Vt) (w : World) (e : Ending) (w' : World) : Prop := ∃ (v : Value) (ys : List Vt), e = .returned v ∧ VRow w' w.heap.size v ys ∧ ys.length = xs.length ∧ (∀ c, c ∈ ys.map Vt.ct ↔ c ∈ xs.map Vt.ct) ∧ Ex w w'
set_option maxHeartbeats 8000000 in
set_option maxRecDepth 100000 in
theorem check_any (ad : Option Addr) (cap : Nat) (l : List Dt) (X : Nat → List Vt) (Y : Nat → Rc) (w : World) (hL : l.length ≤ 9223372036854775807) (hin : Dp.In ad cap l w) (hc : Chain l X Y) : Calls Try.prog 81 #[.slice ad l.length cap] w (CheckPost l Y w) := by
 obtain ⟨n, hn⟩ : ∃ n, n = l.length := ⟨_, rfl⟩
 rw [← hn] at hL
 have HN := Hi hn
 have HIN := Hi hin
 have HC := Hi hc
 rw [show (Value.slice ad l.length cap) = .slice ad n cap by rw [hn]]
 clear hin hc
 clear hn
 go_enter Try.func81, Try.ntmps81
 go_wp2_with ((with_reducible refine so2 [149, 1000+149] ?_ ?_); (focus rfl))
 refine (inew_any w).mono ?_
 rintro e w1 ⟨M, D, r, v, rfl, h1, h2, h3, h4⟩
 have HIM : Hid (IRE w1 w.heap.size M D (X 0)) := Hi ⟨r, v, h1, by rw [HC.out.zero]; exact Rel.nil h3⟩
 have HM := Hi h2
 have B0 := Hi h4
 clear h1 h2 h3 h4
 go_wp2_with fail
 go_loopw [9] (fun i wr => ∃ k : Nat, k ≤ n ∧ i = .int .i64 k ∧ Hid (IRE wr w.heap.size M D (X k)) ∧ Hid (Ex w wr) ∧ Hid (Good l Y k)) (fun i _ => n - (intOf i).toNat)
 case atStart => exact ⟨0, by omega, rfl, HIM, B0, Hi (Good.zero l Y)⟩
 clear HIM B0
 obtain ⟨k, hk, rfl, HR, BX, HG⟩ := hrel
 by_cases hlt : k < n
 rotate_left
 ·obtain rfl : k = n := by omega
  have q1 : ¬ (k : Int) < (k : Int) := by omega
  go_wp2_with fail
  go_ret
  exact ⟨-1, rfl, Or.inl ⟨rfl, by rw [← HN.out]; exact HG.out⟩, BX.out⟩
 obtain ⟨ab, ofs, rfl, ha, hcc⟩ := HIN.out.read (by rw [← HN.out]; omega)
 obtain ⟨x, hx⟩ : ∃ x, l[k]? = some x := ⟨_, List.getElem?_eq_getElem (by rw [← HN.out]; exact hlt)⟩
 have HX := Hi hx
 have XI := Hi (HIN.out.ins k x hx)
 have XR : Hid (wr.rangeAt ab (ofs + k * 68) x.C) := Hi (fun j u hu => (Below.cell (p := ⟨ab, ofs + k * 68 + j, none⟩) BX.out ha).trans (hcc k x hx j u hu))
 clear hcc hx ha
 have q0 : (0 : Int) ≤ (k : Int) := by omega
 have q1 : (k : Int) < (n : Int) := by omega
 go_wp2_with ((with_reducible refine so2 [149, 1000+149] ?_ ?_); (focus rfl))
 refine at9 (by go_simp) fun K0 hK => ld_dr _ ab (ofs + k * 68) x XI.out.q.ok XI.out.r.ok rfl rfl XR.out (hK _ _ ?_)
 clear hK
 go_wp2_with ((with_reducible refine so2 [149, 1000+149] ?_ ?_); (focus rfl))
 refine at9 (by go_simp) fun K0 hK => st_d _ _ wr.heap.size x rfl rfl rfl XI.out.q.ok XI.out.r.ok (Bk.new rfl _ _) (by rfl) (fun w3 hd ho => hK _ _ ?_)
 clear hK
 have x3 : Ex wr w3 := ho.below wr.heap.size (Nat.le_refl _) wr (Ex.alloc wr _)
 have HD := Hi hd
 obtain ⟨g, hg⟩ : ∃ g, g = wr.heap.size := ⟨_, rfl⟩
 replace HR := Hi (HR.out.ext x3)
 rw [← hg] at HD ⊢
 replace BX := Hi (Ex.trans BX.out x3)
 have HST := Hi (HC.out.step k x HX.out)
 clear hd ho hg x3 XR
 go_wp2_with fail
 obtain ⟨b, hb⟩ : ∃ b, b = decide (Y k = x.r.ct) := ⟨_, rfl⟩
 have HB := Hi hb
 clear hb
 have XW := Hi (XI.out.ext BX.out)
 have hS0 : ∀ (listed : Array Bool) (f : Nat → Value), (∀ i, listed.getD i false = false) → S81 w M D g x (X k) (X (k + 1)) (Y k) listed f w3.drew := fun listed f h0 => by
  have xd : Ex w3 w3.drew := (Below.refl w3.heap.size w3).drew
  exact ⟨HD.out.ext xd, Ex.trans BX.out xd, XW.out.ext xd, fun _ => HR.out.ext xd, fun e => by rw [h0 3] at e; cases e⟩
 obtain ⟨T, hT⟩ : ∃ T : List (Value → Prop), T = [(fun zz => zz = .pointer (some ⟨M, 0, none⟩)), (fun zz => zz = .pointer (some ⟨g, 1, none⟩)), (fun zz => zz = x.q.V), (fun _ => True), (fun zz => zz = .pointer (some ⟨g, 58, none⟩)), (fun zz => zz = x.r.V), (fun zz => zz = .bool b), (fun zz => zz = .bool (!b))] := ⟨_, rfl⟩
 refine wp_region_gen (JS T ([] : List (Nat × Nat)) (fun lz fz wz => S81 w M D g x (X k) (X (k + 1)) (Y k) lz fz wz)) (by kernel_rfl) (by kernel_rfl) (by kernel_rfl) (fitB_spec (by kernel_rfl)) (fun listed f h => JS.start listed f h (hS0 listed f h)) ?_ ?_
 ·intro i o ho
  have hi : i < 8 := (Array.getElem?_eq_some_iff.1 ho).1
  have hi' : i = 0 ∨ i = 1 ∨ i = 2 ∨ i = 3 ∨ i = 4 ∨ i = 5 ∨ i = 6 ∨ i = 7 := by omega
  clear hi
  rcases hi' with rfl | rfl | rfl | rfl | rfl | rfl | rfl | rfl
  all_goals (simp only [List.getElem?_toArray, List.getElem?_cons_zero, List.getElem?_cons_succ, Option.some.injEq] at ho; subst ho; intro listed f a w4 hJ hsz hls hun hdep hout hlat; first | (rw [if_pos (by rfl)]; intro K hK) | skip)
  ·have q3 := hout 3 (outB_spec (by kernel_rfl))
   refine wp_mv _ rfl (hK _ _ ?_)
   rw [show a.eval (.tmp 3) = .pointer (some ⟨M, 0, none⟩) from q3]
   exact hJ.nx hls hT rfl rfl (S81.next hJ.st (Ex.refl _) 0 _ (by decide)) (no_head rfl)
  ·have q5 := hout 5 (outB_spec (by kernel_rfl))
   rw [Array.getD_eq_getD_getElem?] at q5
   clear hsz hdep hout hlat
   go_simp
   exact hK _ _ (hJ.nx hls hT rfl rfl (S81.next hJ.st (Ex.refl _) 1 _ (by decide)) (no_head rfl))
  ·have q15 := hJ.is hT (hdep ⟨1, .data⟩ (by simp) rfl) rfl _ rfl _ rfl
   exact ld_dq _ g x XI.out.q.ok rfl q15 hJ.st.bk (hK _ _ (hJ.nx hls hT rfl rfl (S81.next hJ.st (Ex.refl _) 2 _ (by decide)) (no_head rfl)))
  ·have q14 := hJ.iq hT (hdep ⟨0, .data⟩ (by simp) rfl) rfl _ rfl _ rfl
   have q16 := hJ.iq hT (hdep ⟨2, .data⟩ (by simp) rfl) rfl _ rfl _ rfl
   have hst := hJ.st
   clear hsz hdep hout hlat
   go_simp
   refine (ire_do (hst.a hun) HM.out hst.ex x.q hst.di.q HST.out).mono ?_
   rintro e w5 ⟨y, rfl, h1, h2, h3, h4, h5⟩
   exact hK _ _ (hJ.nx hls hT rfl (by trivial) (S81.do hst (by rw [hls]; decide) XI.out h1 h2 h3 h4 h5) (no_head rfl))
  ·have q5 := hout 5 (outB_spec (by kernel_rfl))
   rw [Array.getD_eq_getD_getElem?] at q5
   clear hsz hdep hout hlat
   go_simp
   exact hK _ _ (hJ.nx hls hT rfl rfl (S81.next hJ.st (Ex.refl _) 4 _ (by decide)) (no_head rfl))
  ·have q18 := hJ.is hT (hdep ⟨4, .data⟩ (by simp) rfl) rfl _ rfl _ rfl
   exact ld_drp _ g x XI.out.q.ok XI.out.r.ok rfl q18 hJ.st.bk (hK _ _ (hJ.nx hls hT rfl rfl (S81.next hJ.st (Ex.refl _) 5 _ (by decide)) (no_head rfl)))
  ·have dd17 := hdep ⟨3, .data⟩ (by simp) rfl
   have q17 := dd17.2 _ rfl _ rfl
   have q19 := hJ.iq hT (hdep ⟨5, .data⟩ (by simp) rfl) rfl _ rfl _ rfl
   obtain ⟨y, e3, c3, r3, _⟩ := hJ.st.b (hdep ⟨3, .data⟩ (by simp) rfl).1
   rw [e3] at q17
   rw [Array.getD_eq_getD_getElem?] at q17
   have hst := hJ.st
   clear hsz hdep hout hlat
   go_simp
   refine (jsame_any y x.r w4 r3 hst.di.r).mono ?_
   rintro e w5 ⟨rfl, x5⟩
   exact hK _ _ (hJ.nx hls hT rfl (by exact congrArg Value.bool (by rw [c3]; exact HB.out.symm)) (S81.next hst x5 6 _ (by decide)) (no_head rfl))
  have q20 := hJ.iq hT (hdep ⟨6, .data⟩ (by simp) rfl) rfl _ rfl _ rfl
  clear hsz hdep hout hlat
  go_simp
  exact hK _ _ (hJ.nx hls hT rfl rfl (S81.next hJ.st (Ex.refl _) 7 _ (by decide)) (no_head rfl))
 intro listed f w4 hall hJ
 have f7 : f 7 = .bool (!b) := by
  have h := hJ.vals 7 (hall 7 (by simp))
  rw [hT] at h; exact h
 have hst := hJ.st
 simp only [putAll, Act.put, List.setIfInBounds_toArray, List.set_cons_zero, List.set_cons_succ, Nat.zero_add, Nat.reduceAdd]
 obtain ⟨y9, _, _, _, hr9⟩ := hst.b (hall 3 (by simp))
 have HR2 := Hi hr9
 have BX2 := Hi hst.ex
 clear hst hS0 hr9
 rw [f7]
 clear f7
 clear hJ hall hT
 cases b
 ·have HNE : Hid (Y k ≠ x.r.ct) := Hi (of_decide_eq_false HB.out.symm)
  go_wp2_with fail
  go_ret
  exact ⟨(k : Int), rfl, Or.inr ⟨k, x, rfl, HX.out, HNE.out, HG.out⟩, BX2.out⟩
 have HE : Hid (Y k = x.r.ct) := Hi (of_decide_eq_true HB.out.symm)
 go_wp2_with fail
 go_roundw
 case rel => exact ⟨k + 1, by omega, by go_num, HR2, BX2, Hi (HG.out.next HX.out HE.out)⟩
 case measure => simp [intOf]; omega
theorem allV_in {v : Nat → List Vt} {c : Vc} : ∀ n : Nat, c ∈ (allV v n).map Vt.ct ↔ ∃ i, i < n ∧ c ∈ (v i).map Vt.ct
 | 0 => ⟨fun h => by simp [allV] at h, fun ⟨i, h, _⟩ => absurd h (Nat.not_lt_zero i)⟩
 | n + 1 => by
  have e := allV_succ v n
  rw [e, List.map_append, List.mem_append, allV_in n]
  constructor
  ·rintro (⟨i, h1, h2⟩ | h)
   ·exact ⟨i, by omega, h2⟩
   ·exact ⟨n, by omega, h⟩
  ·rintro ⟨i, h1, h2⟩
   rcases Nat.lt_or_ge i n with h3 | h3
   ·exact Or.inl ⟨i, h3, h2⟩
   ·obtain rfl : i = n := by omega
    exact Or.inr h2
theorem allV_mem {v : Nat → List Vt} {xs : List Vt} (h : Rel v xs) (c : Vc) : c ∈ (allV v 16).map Vt.ct ↔ c ∈ xs.map Vt.ct := by
 rw [allV_in]
 constructor
 ·rintro ⟨i, hi, h1⟩
  exact ((h.mem i hi c).1 h1).1
 intro h1
 obtain ⟨s, hs, hs16⟩ := shv_range c.id
 exact ⟨s, hs16, (h.mem s hs16 c).2 ⟨h1, hs⟩⟩
set_option maxHeartbeats 8000000 in
set_option maxRecDepth 100000 in
theorem final_any (ad : Option Addr) (cap : Nat) (l : List Dt) (X : Nat → List Vt) (Y : Nat → Rc) (w : World) (hL : l.length ≤ 9223372036854775807) (hin : Dp.In ad cap l w) (hc : Chain l X Y) : Calls Try.prog 82 #[.slice ad l.length cap] w (FinalPost (X l.length) w) := by
 obtain ⟨n, hn⟩ : ∃ n, n = l.length := ⟨_, rfl⟩
 rw [← hn] at hL
 have HN := Hi hn
 have HIN := Hi hin
 have HC := Hi hc
 rw [show (Value.slice ad l.length cap) = .slice ad n cap by rw [hn]]
 clear hin hc
 rw [← hn]
 clear hn
 go_enter Try.func82, Try.ntmps82
 go_wp2_with ((with_reducible refine so2 [149, 1000+149] ?_ ?_); (focus rfl))
 refine (inew_any w).mono ?_
 rintro e w1 ⟨M, D, r, v, rfl, h1, h2, h3, h4⟩
 have HIM : Hid (IRE w1 w.heap.size M D (X 0)) := Hi ⟨r, v, h1, by rw [HC.out.zero]; exact Rel.nil h3⟩
 have HM := Hi h2
 have B0 := Hi h4
 clear h1 h2 h3 h4
 go_wp2_with fail
 go_loopw [9] (fun i wr => ∃ k : Nat, k ≤ n ∧ i = .int .i64 k ∧ Hid (IRE wr w.heap.size M D (X k)) ∧ Hid (Ex w wr)) (fun i _ => n - (intOf i).toNat)
 case atStart => exact ⟨0, by omega, rfl, HIM, B0⟩
 clear HIM B0
 obtain ⟨k, hk, rfl, HR, BX⟩ := hrel
 by_cases hlt : k < n
 rotate_left
 ·obtain rfl : k = n := by omega
  have q1 : ¬ (k : Int) < (k : Int) := by omega
  go_wp2_with fail
  obtain ⟨r9, v9, h9⟩ := HR.out
  have H9 := Hi h9
  clear h9
  go_wp2_with fail
  refine (iall_any w.heap.size M D r9 v9 wr H9.out.im).mono ?_
  rintro e w7 ⟨vb, ys, rfl, hrw, hct, xx⟩
  have HV := Hi hrw
  have HCT := Hi hct
  have XX := Hi xx
  clear hrw hct xx
  go_wp2_with fail
  go_ret
  have ht : ∀ i, i < 16 → Tidy (v9 i) := fun i hi => H9.out.im.tidy H9.out.rel.rightV hi
  refine ⟨vb, ys, rfl, HV.out.less (Below.size BX.out), ?_, fun c => ?_, Ex.trans BX.out XX.out⟩
  ·rw [← H9.out.rel.total ht, ← List.length_map (f := Vt.ct), HCT.out, List.length_map]
  rw [HCT.out]; exact allV_mem H9.out.rel c
 obtain ⟨ab, ofs, rfl, ha, hcc⟩ := HIN.out.read (by rw [← HN.out]; omega)
 obtain ⟨x, hx⟩ : ∃ x, l[k]? = some x := ⟨_, List.getElem?_eq_getElem (by rw [← HN.out]; exact hlt)⟩
 have HX := Hi hx
 have XI := Hi (HIN.out.ins k x hx)
 have XR : Hid (wr.rangeAt ab (ofs + k * 68) x.C) := Hi (fun j u hu => (Below.cell (p := ⟨ab, ofs + k * 68 + j, none⟩) BX.out ha).trans (hcc k x hx j u hu))
 clear hcc hx ha
 have q0 : (0 : Int) ≤ (k : Int) := by omega
 have q1 : (k : Int) < (n : Int) := by omega
 go_wp2_with ((with_reducible refine so2 [149, 1000+149] ?_ ?_); (focus rfl))
 refine at9 (by go_simp) fun K0 hK => ld_dr _ ab (ofs + k * 68) x XI.out.q.ok XI.out.r.ok rfl rfl XR.out (hK _ _ ?_)
 clear hK
 go_wp2_with ((with_reducible refine so2 [149, 1000+149] ?_ ?_); (focus rfl))
 refine at9 (by go_simp) fun K0 hK => st_d _ _ wr.heap.size x rfl rfl rfl XI.out.q.ok XI.out.r.ok (Bk.new rfl _ _) (by rfl) (fun w3 hd ho => hK _ _ ?_)
 clear hK
 have x3 : Ex wr w3 := ho.below wr.heap.size (Nat.le_refl _) wr (Ex.alloc wr _)
 have HD := Hi hd
 obtain ⟨g, hg⟩ : ∃ g, g = wr.heap.size := ⟨_, rfl⟩
 replace HR := Hi (HR.out.ext x3)
 rw [← hg] at HD ⊢
 replace BX := Hi (Ex.trans BX.out x3)
 have HST := Hi (HC.out.step k x HX.out)
 clear hd ho hg x3 XR
 go_wp2_with ((with_reducible refine so2 [149, 1000+149] ?_ ?_); (focus rfl))
 refine at9 (by go_simp) fun K0 hK => ld_dq _ g x XI.out.q.ok rfl rfl HD.out (hK _ _ ?_)
 clear hK
 go_wp2_with fail
 refine (ire_do HR.out HM.out BX.out x.q (XI.out.q.ext BX.out) HST.out).mono ?_
 rintro e w4 ⟨y, rfl, h1, h2, h3, h4, h5⟩
 have HR2 := Hi h3
 have BX2 := Hi h4
 clear h1 h2 h3 h4 h5
 go_wp2_with fail
 go_roundw
 case rel => exact ⟨k + 1, by omega, by go_num, HR2, BX2⟩
 case measure => simp [intOf]; omega
end Go.Proofs.Ytmjfnpmnhehnkaa
namespace Go.Proofs.Ytmjfnpmnhehnkaa
section
open Go.RowKit Go.ChangeShapes Go.WideShapes Go.WideMaps Go.MapKept
open Go.ChangeMaps (setBlock heap_setBlock_same heap_setBlock_other)
theorem Try.tysz2 : ∃ m, Try.prog.types.size = m + 2 := ⟨Try.prog.types.size - 2, by
 have h : decide (1 < Try.prog.types.size) = true := by kernel_rfl
 have := of_decide_eq_true h
 omega⟩
theorem lawLife : KeyLaw Try.prog 153 := deep_law (m := 3) (by omega) (by kernel_rfl) (by kernel_rfl) (by rw [Try.underlying153])
theorem keyTLife : Try.prog.keyType 153 = true := by kernel_rfl
theorem wf_u8 (a : UInt8) : (Lit.int .u8 (a.toNat : Int)).wf = true := by
 have := a.toNat_lt
 simp [Lit.wf, IntKind.min, IntKind.max, IntKind.signed, IntKind.bits]
 omega
theorem wf_u64' {g : Int} (h : 0 ≤ g ∧ g < 18446744073709551616) : (Lit.int .u64 g).wf = true := by
 simp [Lit.wf, IntKind.min, IntKind.max, IntKind.signed, IntKind.bits]
 omega
theorem Try.cellsLife : Try.prog.cellsOf 153 = 5 := by kernel_rfl
theorem Try.cellsId : Try.prog.cellsOf 32 = 4 := by kernel_rfl
theorem Try.cellsU64 : Try.prog.cellsOf 24 = 1 := by kernel_rfl
theorem key5 {id : List UInt8} {g : Int} (h : id.length = 4) (hg : 0 ≤ g ∧ g < 18446744073709551616) : ∃ l, keyOf Try.prog 153 (lifeV id g) = some l := by
 obtain ⟨a, b, c, d, rfl⟩ := len4 h
 obtain ⟨m, hm⟩ := Try.tysz2
 have hI : Try.prog.keyLits (m + 2) 32 [.int .u8 (a.toNat : Int), .int .u8 (b.toNat : Int), .int .u8 (c.toNat : Int), .int .u8 (d.toNat : Int)] = some [.int .u8 (a.toNat : Int), .int .u8 (b.toNat : Int), .int .u8 (c.toNat : Int), .int .u8 (d.toNat : Int)] := by
  unfold Program.keyLits
  simp only [Try.underlying32]
  rw [if_pos (by rw [Try.cellsId]; rfl), show List.range 4 = [0, 1, 2, 3] from rfl, List.mapM_cons, List.mapM_cons, List.mapM_cons, List.mapM_cons, List.mapM_nil]
  simp [Try.cells5, Program.keyLits, Try.underlying5, wf_u8]
 have hG : Try.prog.keyLits (m + 2) 24 [.int .u64 g] = some [.int .u64 g] := by
  unfold Program.keyLits
  simp [Try.underlying24, wf_u64' hg]
 refine ⟨.string (keyBytes [.int .u8 (a.toNat : Int), .int .u8 (b.toNat : Int), .int .u8 (c.toNat : Int), .int .u8 (d.toNat : Int), .int .u64 g]), ?_⟩
 show keyOf Try.prog 153 (.agg #[.int .u8 (a.toNat : Int), .int .u8 (b.toNat : Int), .int .u8 (c.toNat : Int), .int .u8 (d.toNat : Int), .int .u64 g]) = _
 unfold keyOf
 rw [under153x]
 simp only []
 rw [if_pos (by simp [keyTLife, Value.formed, under153x, Try.cellsLife]), hm]
 unfold Program.keyLits
 rw [under153x]
 simp only [Value.cells]
 refine Eq.trans (congrArg (Option.map _) (if_pos ⟨by rw [Try.cellsLife]; rfl, by rw [← Array.all_toList, fields153x_is]; rfl⟩)) ?_
 rw [fields153x_is]
 unfold fields153x
 rw [List.mapM_cons, List.mapM_cons, List.mapM_nil]
 simp only [Try.cellsId, Try.cellsU64]
 simp only [List.drop_zero, List.take_succ_cons, List.take_zero, List.drop_succ_cons, hI, hG]
 rfl
def LP (p : List UInt8 × Int) : Prop := p.1.length = 4 ∧ 0 ≤ p.2 ∧ p.2 < 18446744073709551616
theorem lifeV_inj {x y : List UInt8} {g n : Int} (hx : x.length = 4) (hy : y.length = 4) (h : lifeV x g = lifeV y n) : x = y ∧ g = n := by
 have h1 : lifeC x g = lifeC y n := by
  have := Value.agg.inj h
  simpa using this
 unfold lifeC at h1
 have h2 := List.append_inj h1 (by rw [byteCells_len, byteCells_len, hx, hy])
 refine ⟨?_, by have := h2.2; simpa using this⟩
 have h3 := h2.1
 unfold Lib.byteCells at h3
 refine (List.map_inj_right (fun a b e => ?_)).1 h3
 have : (a.toNat : Int) = b.toNat := by injection e
 exact UInt8.toNat_inj.1 (by omega)
structure EL (es : Array MapEntry) (S : List (List UInt8 × Int)) : Prop where
 keys : ∀ e ∈ es.toList, ∃ p ∈ S, e.key = lifeV p.1 p.2 ∧ e.val = .agg #[]
 all : ∀ p ∈ S, ∃ e ∈ es.toList, e.key = lifeV p.1 p.2
 lp : ∀ p ∈ S, LP p
theorem EL.law {es : Array MapEntry} {S : List (List UInt8 × Int)} (h : EL es S) : ∀ e ∈ es.toList, ∃ l, keyOf Try.prog 153 e.key = some l := fun e he => by
 obtain ⟨p, hp, h2, _⟩ := h.keys e he
 rw [h2]; exact key5 (h.lp p hp).1 (h.lp p hp).2
theorem EL.push {es : Array MapEntry} {S : List (List UInt8 × Int)} {c : Nat} (h : EL es S) {p : List UInt8 × Int} (hp : LP p) : EL (es.push ⟨lifeV p.1 p.2, .agg #[], c⟩) (p :: S) := by
 refine ⟨fun e he => ?_, fun q hq => ?_, fun q hq => ?_⟩
 ·rw [Array.toList_push, List.mem_append, List.mem_singleton] at he
  rcases he with he | rfl
  ·obtain ⟨q, h1, h2⟩ := h.keys e he
   exact ⟨q, List.mem_cons_of_mem _ h1, h2⟩
  exact ⟨p, List.mem_cons_self, rfl, rfl⟩
 ·rcases List.mem_cons.1 hq with rfl | hq
  ·exact ⟨⟨lifeV q.1 q.2, .agg #[], c⟩, by rw [Array.toList_push]; simp, rfl⟩
  obtain ⟨e, he, h2⟩ := h.all q hq
  exact ⟨e, by rw [Array.toList_push, List.mem_append]; exact Or.inl he, h2⟩
 rcases List.mem_cons.1 hq with rfl | hq
 ·exact hp
 exact h.lp q hq
def BL (w : World) (b : Nat) (S : List (List UInt8 × Int)) : Prop := ∃ es clock, w.heap[b]? = some (.map es clock) ∧ EL es S
theorem BL.lt {w : World} {b : Nat} {S : List (List UInt8 × Int)} (h : BL w b S) : b < w.heap.size := by
 obtain ⟨es, c, h1, _⟩ := h
 exact (Array.getElem?_eq_some_iff.1 h1).1
theorem BL.ext {w w' : World} {b : Nat} {S : List (List UInt8 × Int)} (h : BL w b S) (k : Ex w w') : BL w' b S := by
 have hb := h.lt
 obtain ⟨es, c, h1, h2⟩ := h
 exact ⟨es, c, (k.block b hb).trans h1, h2⟩
theorem bl_new (w : World) : BL (w.alloc (.map #[] 0)) w.heap.size [] := ⟨#[], 0, by unfold World.alloc; exact Array.getElem?_push_size, ⟨fun e h => by simp at h, fun p h => by simp at h, fun p h => by simp at h⟩⟩
theorem only_set {w : World} {b : Nat} (o : Obj) (hb : b < w.heap.size) : Only b w (setBlock w b o) := by
 refine ⟨fun B hB a ha => ?_, fun h hne => ?_, ?_⟩
 ·refine ha.trans ⟨rfl, rfl, rfl, ?_, fun k hk => ?_⟩
  ·show w.heap.size ≤ (w.heap.setIfInBounds b o).size; simp
  show (w.heap.setIfInBounds b o)[k]? = _
  rw [Array.getElem?_setIfInBounds_ne (by omega)]
 ·show (w.heap.setIfInBounds b o)[h]? = _
  rw [Array.getElem?_setIfInBounds_ne (fun e => hne e.symm)]
 show (w.heap.setIfInBounds b o).size = _; simp
theorem set_at {w : World} {b : Nat} (o : Obj) (hb : b < w.heap.size) : (setBlock w b o).heap[b]? = some o := by
 show (w.heap.setIfInBounds b o)[b]? = _
 rw [Array.getElem?_setIfInBounds_self_of_lt hb]
theorem zeroE (w : World) : (zeroValue 157).run Try.prog w = .ok (.agg #[]) w := by kernel_rfl
open Classical in
theorem BL.lookup {w : World} {b : Nat} {S : List (List UInt8 × Int)} (h : BL w b S) {p : List UInt8 × Int} (hp : LP p) : (Instr.lookup 156 (.map (some b)) (lifeV p.1 p.2) true).run Try.prog w = .ok (.tuple #[.agg #[], .bool (decide (p ∈ S))]) w := by
 obtain ⟨es, clock, hb, he⟩ := h
 obtain ⟨kl, hkey⟩ := key5 hp.1 hp.2
 rcases lawLife.find w hkey es.toList he.law with ⟨h1, h2⟩ | ⟨j, e0, h1, h2, h3⟩
 ·have hn : ¬ p ∈ S := fun hps => by
   obtain ⟨e, h4, h5⟩ := he.all p hps
   exact h2 e h4 h5
  simp [Instr.lookup, run_underlying Try.underlying156, MapKept.run_getObj_map hb, lawLife.check w _ hkey, h1, zeroE, Result.andThen, hn]
 obtain ⟨q, a1, a2, a3⟩ := he.keys e0 (List.mem_of_getElem? h2)
 have h4 := lifeV_inj (he.lp q a1).1 hp.1 (a2.symm.trans h3)
 have : q = p := Prod.ext h4.1 h4.2
 subst this
 simp [Instr.lookup, run_underlying Try.underlying156, MapKept.run_getObj_map hb, lawLife.check w _ hkey, h1, Result.andThen, a3, a1]
theorem set_self8 {α : Type} : ∀ (l : List α) (j : Nat) (a : α), l[j]? = some a → l.set j a = l
 | [], _, _, h => by simp at h
 | b :: r, 0, a, h => by simp at h; subst h; rfl
 | b :: r, j + 1, a, h => by simp at h; simp [set_self8 r j a h]
theorem BL.update {w : World} {b : Nat} {S : List (List UInt8 × Int)} (h : BL w b S) {p : List UInt8 × Int} (hp : LP p) :
  ∃ w', (Instr.mapUpdate 156 (.map (some b)) (lifeV p.1 p.2) (.agg #[])).run Try.prog w = .ok () w' ∧ BL w' b (p :: S) ∧ Only b w w' := by
 have hblt := h.lt
 obtain ⟨es, clock, hb, he⟩ := h
 obtain ⟨kl, hkey⟩ := key5 hp.1 hp.2
 rcases lawLife.find w hkey es.toList he.law with ⟨h1, h2⟩ | ⟨j, e0, h1, h2, h3⟩
 ·exact ⟨setBlock w b (.map (es.push ⟨lifeV p.1 p.2, .agg #[], clock⟩) (clock + 1)), by simp [Instr.mapUpdate, run_underlying Try.underlying156, MapKept.run_getObj_map hb, lawLife.check w false hkey, h1, MapKept.run_setObj_map _ hb, Result.andThen, setBlock], ⟨_, _, set_at _ hblt, he.push hp⟩, only_set _ hblt⟩
 have hj : es[j]? = some e0 := by simpa using h2
 obtain ⟨q, a1, a2, a3⟩ := he.keys e0 (List.mem_of_getElem? h2)
 have h4 := lifeV_inj (he.lp q a1).1 hp.1 (a2.symm.trans h3)
 have : q = p := Prod.ext h4.1 h4.2
 subst this
 have hsame : es.modify j (fun e' => { e' with key := lifeV q.1 q.2, val := .agg #[] }) = es := by
  apply Array.ext'
  rw [Array.toList_modify, Go.ChangeMaps.modify_eq_set _ _ _ _ h2]
  have : ({ e0 with key := lifeV q.1 q.2, val := .agg #[] } : MapEntry) = e0 := by rw [← h3, ← a3]
  rw [this]
  exact set_self8 _ _ _ h2
 exact ⟨setBlock w b (.map es clock), by simp [Instr.mapUpdate, run_underlying Try.underlying156, MapKept.run_getObj_map hb, lawLife.check w false hkey, h1, hj, h3, lawLife.stays w hkey, hsame, MapKept.run_setObj_map _ hb, Result.andThen, setBlock], ⟨es, clock, set_at _ hblt, ⟨fun e h => by obtain ⟨p, h5, h6⟩ := he.keys e h; exact ⟨p, List.mem_cons_of_mem _ h5, h6⟩, fun p h5 => by rcases List.mem_cons.1 h5 with rfl | h5; exact ⟨e0, List.mem_of_getElem? h2, a2⟩; exact he.all p h5, fun p h5 => by rcases List.mem_cons.1 h5 with rfl | h5; exact hp; exact he.lp p h5⟩⟩, only_set _ hblt⟩
section
variable {o : Oper} {a : Act} {w : World} {K : Act → World → Prop} {Q : Exit → Act → World → Prop}
open Classical in
theorem wp_llk (m x : Operand) (ho : o.op = .lookup 156 m x true) (b : Nat) (S : List (List UInt8 × Int)) (h : BL w b S) (p : List UInt8 × Int) (hp : LP p) (hm : a.eval m = .map (some b)) (hx : a.eval x = lifeV p.1 p.2)
  (hk : K (a.put o.dst (.tuple #[.agg #[], .bool (decide (p ∈ S))])) w) : o.wp Try.prog a w K Q := by
 have hrun := h.lookup hp
 unfold Oper.wp
 simp [execOp, ho, hm, hx, hrun, Result.andThen]
 exact hk
theorem wp_lup (m x v : Operand) (ho : o.op = .mapUpdate 156 m x v) (b : Nat) (S : List (List UInt8 × Int)) (h : BL w b S) (p : List UInt8 × Int) (hp : LP p) (hm : a.eval m = .map (some b)) (hx : a.eval x = lifeV p.1 p.2) (hv : a.eval v = .agg #[])
  (hk : ∀ w', BL w' b (p :: S) → Only b w w' → K (a.put o.dst undef) w') : o.wp Try.prog a w K Q := by
 obtain ⟨w', hrun, h1, h2⟩ := h.update hp
 unfold Oper.wp
 simp [execOp, ho, hm, hx, hv, hrun, Result.andThen]
 exact hk w' h1 h2
end
section
variable {P : Program} {ops : Array Oper} {rest : List Oper} {d : Option Tmp} {t2 : TypeId} {pos : String} {af : Array Edge} {g : Option (Nat × Bool)} {a : Act} {w : World} {Q : Exit → Act → World → Prop}
theorem stop_mu {t : TypeId} {m x y : Operand} (k : Stop (wpList P ops Q ({ dst := d, op := .mapUpdate t m x y, type := t2, pos := pos, after := af, guard := g } :: rest) a w)) : wpList P ops Q ({ dst := d, op := .mapUpdate t m x y, type := t2, pos := pos, after := af, guard := g } :: rest) a w := k.go
theorem stop_lk {t : TypeId} {m x : Operand} {c : Bool} (k : Stop (wpList P ops Q ({ dst := d, op := .lookup t m x c, type := t2, pos := pos, after := af, guard := g } :: rest) a w)) : wpList P ops Q ({ dst := d, op := .lookup t m x c, type := t2, pos := pos, after := af, guard := g } :: rest) a w := k.go
end
end
end Go.Proofs.Ytmjfnpmnhehnkaa
