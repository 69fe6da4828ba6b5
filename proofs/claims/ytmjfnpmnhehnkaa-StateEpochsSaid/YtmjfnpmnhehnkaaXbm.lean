/- Ri -/
import Derived.Test.YtmjfnpmnhehnkaaXbk
import Derived.Test.YtmjfnpmnhehnkaaXbl
import Derived.Test.YtmjfnpmnhehnkaaXbl
namespace Go.Proofs.Ytmjfnpmnhehnkaa
open Go.RowKit
/-- two rows that are told in a drawn region -/
structure SA2 (ia ib : Nat) (w0 : World) (C1 C2 : List Vc) (l : Array Bool) (f : Nat → Value) (w : World) : Prop where
 ex : Ex w0 w
 a : l.getD ia false = true → ∃ ys : List Vt, VRow w w0.heap.size (f ia) ys ∧ ys.map Vt.ct = C1
 b : l.getD ib false = true → ∃ ys : List Vt, VRow w w0.heap.size (f ib) ys ∧ ys.map Vt.ct = C2
section
variable {ia ib : Nat} {w0 w w' : World} {C1 C2 : List Vc} {l : Array Bool} {f : Nat → Value} {x : Value}
theorem SA2.start (h0 : ∀ i, l.getD i false = false) (hx : Ex w0 w) : SA2 ia ib w0 C1 C2 l f w := ⟨hx, (fun a => by rw [h0] at a; cases a), (fun a => by rw [h0] at a; cases a)⟩
theorem SA2.plain (h : SA2 ia ib w0 C1 C2 l f w) (kx : Ex w w') (i : Nat) (hi : i ≠ ia ∧ i ≠ ib) : SA2 ia ib w0 C1 C2 (l.setIfInBounds i true) (upd f i x) w' := by
 refine ⟨Ex.trans h.ex kx, fun a => ?_, fun a => ?_⟩
 ·rw [gset hi.1 false] at a; rw [upd_ne _ _ (Ne.symm hi.1)]; obtain ⟨ys, h1, h2⟩ := h.a a; exact ⟨ys, h1.ext kx, h2⟩
 rw [gset hi.2 false] at a; rw [upd_ne _ _ (Ne.symm hi.2)]; obtain ⟨ys, h1, h2⟩ := h.b a; exact ⟨ys, h1.ext kx, h2⟩
theorem SA2.sa (h : SA2 ia ib w0 C1 C2 l f w) (kx : Ex w w') (hne : ia ≠ ib) (hr : ∃ ys : List Vt, VRow w' w0.heap.size x ys ∧ ys.map Vt.ct = C1) : SA2 ia ib w0 C1 C2 (l.setIfInBounds ia true) (upd f ia x) w' := by
 refine ⟨Ex.trans h.ex kx, fun _ => ?_, fun a => ?_⟩
 ·rw [upd_same]; exact hr
 rw [gset hne false] at a; rw [upd_ne _ _ (Ne.symm hne)]; obtain ⟨ys, h1, h2⟩ := h.b a; exact ⟨ys, h1.ext kx, h2⟩
theorem SA2.sb (h : SA2 ia ib w0 C1 C2 l f w) (kx : Ex w w') (hne : ia ≠ ib) (hr : ∃ ys : List Vt, VRow w' w0.heap.size x ys ∧ ys.map Vt.ct = C2) : SA2 ia ib w0 C1 C2 (l.setIfInBounds ib true) (upd f ib x) w' := by
 refine ⟨Ex.trans h.ex kx, fun a => ?_, fun _ => ?_⟩
 ·rw [gset (Ne.symm hne) false] at a; rw [upd_ne _ _ hne]; obtain ⟨ys, h1, h2⟩ := h.a a; exact ⟨ys, h1.ext kx, h2⟩
 rw [upd_same]; exact hr
end
set_option maxHeartbeats 4000000 in
set_option maxRecDepth 100000 in
theorem ssame_eq (B M B2 M2 : Nat) (m n : Int) (p : Nat → Pa) (D D2 : Nat → Nat) (r r2 : Nat → Value) (v v2 : Nat → List Vt) (w : World) (h1 : SS w B M m n p D r v) (h2 : SS w B2 M2 m n p D2 r2 v2) (hv : ∀ i, i < 16 → (v i).map Vt.ct = (v2 i).map Vt.ct) (hl : ∀ i, i < 16 → (v i).length ≤ 1000) : Calls Try.prog 25 #[.pointer (some ⟨M, 0, none⟩), .pointer (some ⟨M2, 0, none⟩)] w fun e w' => e = .returned (.bool true) ∧ Ex w w' := by
 have HA := Hi h1
 have HB := Hi h2
 have HV := Hi hv
 have HL9 := Hi hl
 clear h1 h2 hv hl
 go_enter Try.func25, Try.ntmps25
 go_wp2_with fail
 have hS0 : ∀ (listed : Array Bool) (f : Nat → Value), (∀ i, listed.getD i false = false) → Ex w w.drew := fun _ _ _ => (Below.refl w.heap.size w).drew
 obtain ⟨T, hT⟩ : ∃ T : List (Value → Prop), T = [(fun zz => zz = .pointer (some ⟨M, 0, none⟩)), (fun zz => zz = .bool false), (fun zz => zz = .bool false), (fun zz => zz = .pointer (some ⟨M2, 0, none⟩)), (fun zz => zz = .bool false), (fun zz => zz = .bool false), (fun zz => zz = .bool false), (fun zz => zz = .pointer (some ⟨M, 0, none⟩)), (fun zz => zz = .pointer (some ⟨M, 0, none⟩)), (fun zz => zz = .pointer (some ⟨M, 0, none⟩)), (fun zz => zz = .int .i64 m), (fun zz => zz = .pointer (some ⟨M2, 0, none⟩)), (fun zz => zz = .pointer (some ⟨M2, 0, none⟩)), (fun zz => zz = .pointer (some ⟨M2, 0, none⟩)), (fun zz => zz = .int .i64 m), (fun zz => zz = .bool false), (fun zz => zz = .bool false), (fun zz => zz = .bool false), (fun zz => zz = .pointer (some ⟨M, 0, none⟩)), (fun zz => zz = .pointer (some ⟨M, 0, none⟩)), (fun zz => zz = .pointer (some ⟨M, 1, none⟩)), (fun zz => zz = .int .i64 n), (fun zz => zz = .pointer (some ⟨M2, 0, none⟩)), (fun zz => zz = .pointer (some ⟨M2, 0, none⟩)), (fun zz => zz = .pointer (some ⟨M2, 1, none⟩)), (fun zz => zz = .int .i64 n), (fun zz => zz = .bool false), (fun zz => zz = .bool false)] := ⟨_, rfl⟩
 refine wp_region_gen (JS T ([] : List (Nat × Nat)) (fun _ _ wz => Ex w wz)) (by kernel_rfl) (by kernel_rfl) (by kernel_rfl) (fitB_spec (by kernel_rfl)) (fun listed f h => JS.start listed f h (hS0 listed f h)) ?_ ?_
 ·intro i o ho
  have hi : i < 28 := (Array.getElem?_eq_some_iff.1 ho).1
  have hi' : i = 0 ∨ i = 1 ∨ i = 2 ∨ i = 3 ∨ i = 4 ∨ i = 5 ∨ i = 6 ∨ i = 7 ∨ i = 8 ∨ i = 9 ∨ i = 10 ∨ i = 11 ∨ i = 12 ∨ i = 13 ∨ i = 14 ∨ i = 15 ∨ i = 16 ∨ i = 17 ∨ i = 18 ∨ i = 19 ∨ i = 20 ∨ i = 21 ∨ i = 22 ∨ i = 23 ∨ i = 24 ∨ i = 25 ∨ i = 26 ∨ i = 27 := by omega
  clear hi
  rcases hi' with rfl | rfl | rfl | rfl | rfl | rfl | rfl | rfl | rfl | rfl | rfl | rfl | rfl | rfl | rfl | rfl | rfl | rfl | rfl | rfl | rfl | rfl | rfl | rfl | rfl | rfl | rfl | rfl
  all_goals (simp only [List.getElem?_toArray, List.getElem?_cons_zero, List.getElem?_cons_succ, Option.some.injEq] at ho; subst ho; intro listed f a w1 hJ hsz hls hun hdep hout hlat; first | (rw [if_pos (by rfl)]; intro K hK) | skip)
  ·have q0 := hout 0 (outB_spec (by kernel_rfl))
   refine wp_mv _ rfl (hK _ _ ?_)
   rw [show a.eval (.tmp 0) = .pointer (some ⟨M, 0, none⟩) from q0]
   exact hJ.nx hls hT rfl rfl hJ.st (no_head (by decide))
  ·have q8 := hJ.iq hT (hdep ⟨0, .data⟩ (by simp) rfl) rfl _ rfl _ rfl
   clear hsz hdep hout hlat
   go_simp
   exact hK _ _ (hJ.nx hls hT rfl (by first | rfl | exact congrArg (Value.int .i64) (by omega) | exact congrArg (Value.int .i64) (by rw [IntKind.wrap_i64]; omega) | exact congrArg Value.bool (decide_eq_false (by omega)) | exact congrArg Value.bool (decide_eq_true (by omega)) | exact congrArg (Value.int .u64) (by omega)) hJ.st (no_head (by decide)))
  ·have q9 := hJ.is hT (hdep ⟨1, .data⟩ (by simp) rfl) rfl _ rfl _ rfl
   refine wp_mv _ rfl (hK _ _ ?_)
   rw [show a.eval (.tmp 9) = .bool false from q9]
   exact hJ.nx hls hT rfl rfl hJ.st (no_head (by decide))
  ·have kg := hJ.is hT (hdep ⟨2, .guard⟩ (by simp) rfl) rfl _ rfl _ rfl
   rw [if_pos (wanted_of rfl rfl rfl kg)]
   clear kg
   intro K hK
   have q1 := hout 1 (outB_spec (by kernel_rfl))
   refine wp_mv _ rfl (hK _ _ ?_)
   rw [show a.eval (.tmp 1) = .pointer (some ⟨M2, 0, none⟩) from q1]
   exact hJ.nx hls hT rfl rfl hJ.st (no_head (by decide))
  ·have kg := hJ.is hT (hdep ⟨2, .guard⟩ (by simp) rfl) rfl _ rfl _ rfl
   rw [if_pos (wanted_of rfl rfl rfl kg)]
   clear kg
   intro K hK
   have q11 := hJ.iq hT (hdep ⟨3, .data⟩ (by simp) rfl) rfl _ rfl _ rfl
   clear hsz hdep hout hlat
   go_simp
   exact hK _ _ (hJ.nx hls hT rfl (by first | rfl | exact congrArg (Value.int .i64) (by omega) | exact congrArg (Value.int .i64) (by rw [IntKind.wrap_i64]; omega) | exact congrArg Value.bool (decide_eq_false (by omega)) | exact congrArg Value.bool (decide_eq_true (by omega)) | exact congrArg (Value.int .u64) (by omega)) hJ.st (no_head (by decide)))
  ·have q10 := hJ.iq hT (hdep ⟨2, .data⟩ (by simp) rfl) rfl _ rfl _ rfl
   have q12 := hJ.iq hT (hdep ⟨4, .data⟩ (by simp) rfl) rfl _ rfl _ rfl
   clear hsz hdep hout hlat
   go_simp
   exact hK _ _ (hJ.nx hls hT rfl rfl hJ.st (no_head (by decide)))
  ·have q13 := hJ.is hT (hdep ⟨5, .data⟩ (by simp) rfl) rfl _ rfl _ rfl
   refine wp_mv _ rfl (hK _ _ ?_)
   rw [show a.eval (.tmp 13) = .bool false from q13]
   exact hJ.nx hls hT rfl rfl hJ.st (no_head (by decide))
  ·have kg := hJ.is hT (hdep ⟨6, .guard⟩ (by simp) rfl) rfl _ rfl _ rfl
   rw [if_pos (wanted_of rfl rfl rfl kg)]
   clear kg
   intro K hK
   have q0 := hout 0 (outB_spec (by kernel_rfl))
   refine wp_mv _ rfl (hK _ _ ?_)
   rw [show a.eval (.tmp 0) = .pointer (some ⟨M, 0, none⟩) from q0]
   exact hJ.nx hls hT rfl rfl hJ.st (no_head (by decide))
  ·have kg := hJ.is hT (hdep ⟨6, .guard⟩ (by simp) rfl) rfl _ rfl _ rfl
   rw [if_pos (wanted_of rfl rfl rfl kg)]
   clear kg
   intro K hK
   have q15 := hJ.iq hT (hdep ⟨7, .data⟩ (by simp) rfl) rfl _ rfl _ rfl
   clear hsz hdep hout hlat
   go_simp
   exact hK _ _ (hJ.nx hls hT rfl rfl hJ.st (no_head (by decide)))
  ·have kg := hJ.is hT (hdep ⟨6, .guard⟩ (by simp) rfl) rfl _ rfl _ rfl
   rw [if_pos (wanted_of rfl rfl rfl kg)]
   clear kg
   intro K hK
   have q16 := hJ.iq hT (hdep ⟨8, .data⟩ (by simp) rfl) rfl _ rfl _ rfl
   clear hsz hdep hout hlat
   go_simp
   exact hK _ _ (hJ.nx hls hT rfl rfl hJ.st (no_head (by decide)))
  ·have kg := hJ.is hT (hdep ⟨6, .guard⟩ (by simp) rfl) rfl _ rfl _ rfl
   rw [if_pos (wanted_of rfl rfl rfl kg)]
   clear kg
   intro K hK
   have q17 := hJ.iq hT (hdep ⟨9, .data⟩ (by simp) rfl) rfl _ rfl _ rfl
   have cc := (HA.out.ext hJ.st).heads.1
   clear hsz hdep hout hlat
   go_simp
   exact hK _ _ (hJ.nx hls hT rfl rfl hJ.st (no_head (by decide)))
  ·have kg := hJ.is hT (hdep ⟨6, .guard⟩ (by simp) rfl) rfl _ rfl _ rfl
   rw [if_pos (wanted_of rfl rfl rfl kg)]
   clear kg
   intro K hK
   have q1 := hout 1 (outB_spec (by kernel_rfl))
   refine wp_mv _ rfl (hK _ _ ?_)
   rw [show a.eval (.tmp 1) = .pointer (some ⟨M2, 0, none⟩) from q1]
   exact hJ.nx hls hT rfl rfl hJ.st (no_head (by decide))
  ·have kg := hJ.is hT (hdep ⟨6, .guard⟩ (by simp) rfl) rfl _ rfl _ rfl
   rw [if_pos (wanted_of rfl rfl rfl kg)]
   clear kg
   intro K hK
   have q19 := hJ.iq hT (hdep ⟨11, .data⟩ (by simp) rfl) rfl _ rfl _ rfl
   clear hsz hdep hout hlat
   go_simp
   exact hK _ _ (hJ.nx hls hT rfl rfl hJ.st (no_head (by decide)))
  ·have kg := hJ.is hT (hdep ⟨6, .guard⟩ (by simp) rfl) rfl _ rfl _ rfl
   rw [if_pos (wanted_of rfl rfl rfl kg)]
   clear kg
   intro K hK
   have q20 := hJ.iq hT (hdep ⟨12, .data⟩ (by simp) rfl) rfl _ rfl _ rfl
   clear hsz hdep hout hlat
   go_simp
   exact hK _ _ (hJ.nx hls hT rfl rfl hJ.st (no_head (by decide)))
  ·have kg := hJ.is hT (hdep ⟨6, .guard⟩ (by simp) rfl) rfl _ rfl _ rfl
   rw [if_pos (wanted_of rfl rfl rfl kg)]
   clear kg
   intro K hK
   have q21 := hJ.iq hT (hdep ⟨13, .data⟩ (by simp) rfl) rfl _ rfl _ rfl
   have cc := (HB.out.ext hJ.st).heads.1
   clear hsz hdep hout hlat
   go_simp
   exact hK _ _ (hJ.nx hls hT rfl rfl hJ.st (no_head (by decide)))
  ·have kg := hJ.is hT (hdep ⟨6, .guard⟩ (by simp) rfl) rfl _ rfl _ rfl
   rw [if_pos (wanted_of rfl rfl rfl kg)]
   clear kg
   intro K hK
   have q18 := hJ.iq hT (hdep ⟨10, .data⟩ (by simp) rfl) rfl _ rfl _ rfl
   have q22 := hJ.iq hT (hdep ⟨14, .data⟩ (by simp) rfl) rfl _ rfl _ rfl
   clear hsz hdep hout hlat
   go_simp
   exact hK _ _ (hJ.nx hls hT rfl (by first | rfl | exact congrArg (Value.int .i64) (by omega) | exact congrArg (Value.int .i64) (by rw [IntKind.wrap_i64]; omega) | exact congrArg Value.bool (decide_eq_false (by omega)) | exact congrArg Value.bool (decide_eq_true (by omega)) | exact congrArg (Value.int .u64) (by omega)) hJ.st (no_head (by decide)))
  ·have q14 := hJ.iq hT (hdep ⟨6, .data⟩ (by simp) rfl) rfl _ rfl _ rfl
   have q23 := hJ.iq hT (hdep ⟨15, .data⟩ (by simp) rfl) rfl _ rfl _ rfl
   clear hsz hdep hout hlat
   go_simp
   exact hK _ _ (hJ.nx hls hT rfl rfl hJ.st (no_head (by decide)))
  ·have q24 := hJ.is hT (hdep ⟨16, .data⟩ (by simp) rfl) rfl _ rfl _ rfl
   refine wp_mv _ rfl (hK _ _ ?_)
   rw [show a.eval (.tmp 24) = .bool false from q24]
   exact hJ.nx hls hT rfl rfl hJ.st (no_head (by decide))
  ·have kg := hJ.is hT (hdep ⟨17, .guard⟩ (by simp) rfl) rfl _ rfl _ rfl
   rw [if_pos (wanted_of rfl rfl rfl kg)]
   clear kg
   intro K hK
   have q0 := hout 0 (outB_spec (by kernel_rfl))
   refine wp_mv _ rfl (hK _ _ ?_)
   rw [show a.eval (.tmp 0) = .pointer (some ⟨M, 0, none⟩) from q0]
   exact hJ.nx hls hT rfl rfl hJ.st (no_head (by decide))
  ·have kg := hJ.is hT (hdep ⟨17, .guard⟩ (by simp) rfl) rfl _ rfl _ rfl
   rw [if_pos (wanted_of rfl rfl rfl kg)]
   clear kg
   intro K hK
   have q26 := hJ.iq hT (hdep ⟨18, .data⟩ (by simp) rfl) rfl _ rfl _ rfl
   clear hsz hdep hout hlat
   go_simp
   exact hK _ _ (hJ.nx hls hT rfl rfl hJ.st (no_head (by decide)))
  ·have kg := hJ.is hT (hdep ⟨17, .guard⟩ (by simp) rfl) rfl _ rfl _ rfl
   rw [if_pos (wanted_of rfl rfl rfl kg)]
   clear kg
   intro K hK
   have q27 := hJ.iq hT (hdep ⟨19, .data⟩ (by simp) rfl) rfl _ rfl _ rfl
   clear hsz hdep hout hlat
   go_simp
   exact hK _ _ (hJ.nx hls hT rfl rfl hJ.st (no_head (by decide)))
  ·have kg := hJ.is hT (hdep ⟨17, .guard⟩ (by simp) rfl) rfl _ rfl _ rfl
   rw [if_pos (wanted_of rfl rfl rfl kg)]
   clear kg
   intro K hK
   have q28 := hJ.iq hT (hdep ⟨20, .data⟩ (by simp) rfl) rfl _ rfl _ rfl
   have cc := (HA.out.ext hJ.st).heads.2
   clear hsz hdep hout hlat
   go_simp
   exact hK _ _ (hJ.nx hls hT rfl rfl hJ.st (no_head (by decide)))
  ·have kg := hJ.is hT (hdep ⟨17, .guard⟩ (by simp) rfl) rfl _ rfl _ rfl
   rw [if_pos (wanted_of rfl rfl rfl kg)]
   clear kg
   intro K hK
   have q1 := hout 1 (outB_spec (by kernel_rfl))
   refine wp_mv _ rfl (hK _ _ ?_)
   rw [show a.eval (.tmp 1) = .pointer (some ⟨M2, 0, none⟩) from q1]
   exact hJ.nx hls hT rfl rfl hJ.st (no_head (by decide))
  ·have kg := hJ.is hT (hdep ⟨17, .guard⟩ (by simp) rfl) rfl _ rfl _ rfl
   rw [if_pos (wanted_of rfl rfl rfl kg)]
   clear kg
   intro K hK
   have q30 := hJ.iq hT (hdep ⟨22, .data⟩ (by simp) rfl) rfl _ rfl _ rfl
   clear hsz hdep hout hlat
   go_simp
   exact hK _ _ (hJ.nx hls hT rfl rfl hJ.st (no_head (by decide)))
  ·have kg := hJ.is hT (hdep ⟨17, .guard⟩ (by simp) rfl) rfl _ rfl _ rfl
   rw [if_pos (wanted_of rfl rfl rfl kg)]
   clear kg
   intro K hK
   have q31 := hJ.iq hT (hdep ⟨23, .data⟩ (by simp) rfl) rfl _ rfl _ rfl
   clear hsz hdep hout hlat
   go_simp
   exact hK _ _ (hJ.nx hls hT rfl rfl hJ.st (no_head (by decide)))
  ·have kg := hJ.is hT (hdep ⟨17, .guard⟩ (by simp) rfl) rfl _ rfl _ rfl
   rw [if_pos (wanted_of rfl rfl rfl kg)]
   clear kg
   intro K hK
   have q32 := hJ.iq hT (hdep ⟨24, .data⟩ (by simp) rfl) rfl _ rfl _ rfl
   have cc := (HB.out.ext hJ.st).heads.2
   clear hsz hdep hout hlat
   go_simp
   exact hK _ _ (hJ.nx hls hT rfl rfl hJ.st (no_head (by decide)))
  ·have kg := hJ.is hT (hdep ⟨17, .guard⟩ (by simp) rfl) rfl _ rfl _ rfl
   rw [if_pos (wanted_of rfl rfl rfl kg)]
   clear kg
   intro K hK
   have q29 := hJ.iq hT (hdep ⟨21, .data⟩ (by simp) rfl) rfl _ rfl _ rfl
   have q33 := hJ.iq hT (hdep ⟨25, .data⟩ (by simp) rfl) rfl _ rfl _ rfl
   clear hsz hdep hout hlat
   go_simp
   exact hK _ _ (hJ.nx hls hT rfl (by first | rfl | exact congrArg (Value.int .i64) (by omega) | exact congrArg (Value.int .i64) (by rw [IntKind.wrap_i64]; omega) | exact congrArg Value.bool (decide_eq_false (by omega)) | exact congrArg Value.bool (decide_eq_true (by omega)) | exact congrArg (Value.int .u64) (by omega)) hJ.st (no_head (by decide)))
  have q25 := hJ.iq hT (hdep ⟨17, .data⟩ (by simp) rfl) rfl _ rfl _ rfl
  have q34 := hJ.iq hT (hdep ⟨26, .data⟩ (by simp) rfl) rfl _ rfl _ rfl
  clear hsz hdep hout hlat
  go_simp
  exact hK _ _ (hJ.nx hls hT rfl rfl hJ.st (no_head (by decide)))
 intro listed f w1 hall hJ
 have f27 : f 27 = .bool false := by
  have h := hJ.vals 27 (hall 27 (by simp))
  rw [hT] at h; exact h
 have hst := hJ.st
 simp only [putAll, Act.put, List.setIfInBounds_toArray, List.set_cons_zero, List.set_cons_succ, Nat.zero_add, Nat.reduceAdd]
 have xx : Ex w w1 := hst
 rw [f27]
 clear f27
 clear hJ hall hT
 clear hst hS0
 have X1 := Hi xx
 clear xx
 go_wp2_with (first | (with_reducible refine stop_ix ?_) | ((with_reducible refine so4 [112, 1000 + 112, 113, 115, 1000 + 115, 1000 + 110] ?_ ?_); (focus rfl)))
 refine at9 (by go_simp) fun K0 hK => ld_sps _ rfl rfl (HA.out.ext X1.out).blk (hK _ _ ?_)
 clear hK
 go_wp2_with (first | (with_reducible refine stop_ix ?_) | ((with_reducible refine so4 [112, 1000 + 112, 113, 115, 1000 + 115, 1000 + 110] ?_ ?_); (focus rfl)))
 go_loopw [40] (fun i wr => ∃ k : Nat, k ≤ 16 ∧ i = .int .i64 k ∧ Hid (Ex w wr)) (fun i _ => 16 - (intOf i).toNat)
 case atStart => exact ⟨0, by omega, rfl, X1⟩
 clear X1
 obtain ⟨k, hk, rfl, BX⟩ := hrel
 by_cases hlt : k < 16
 rotate_left
 ·obtain rfl : k = 16 := by omega
  go_wp2_with fail
  go_ret
  exact ⟨rfl, BX.out⟩
 have q0 : (0 : Int) ≤ (k : Int) := by omega
 have q1 : (k : Int) < 16 := by omega
 go_wp2_with (first | (with_reducible refine stop_ix ?_) | ((with_reducible refine so4 [112, 1000 + 112, 113, 115, 1000 + 115, 1000 + 110] ?_ ?_); (focus rfl)))
 refine at9 (by go_simp) fun K0 hK => wp_ixs _ _ p (fun i => some (D i)) k hlt rfl rfl rfl (hK _ _ ?_)
 clear hK
 go_wp2_with (first | (with_reducible refine stop_ix ?_) | ((with_reducible refine so4 [112, 1000 + 112, 113, 115, 1000 + 115, 1000 + 110] ?_ ?_); (focus rfl)))
 refine at9 (by go_simp) fun K0 hK => st_pb _ _ wr.heap.size (p k) (some (D k)) rfl rfl rfl (Bk.new rfl _ _) (by rfl) (fun w3 hd ho => hK _ _ ?_)
 clear hK
 have x3 : Ex wr w3 := ho.below wr.heap.size (Nat.le_refl _) wr (Ex.alloc wr _)
 obtain ⟨g, hg⟩ : ∃ g, g = wr.heap.size := ⟨_, rfl⟩
 rw [← hg] at hd ⊢
 have HG := Hi hd
 replace BX := Hi (Ex.trans BX.out x3)
 clear hd ho hg x3
 go_wp2_with (first | (with_reducible refine stop_ix ?_) | ((with_reducible refine so4 [112, 1000 + 112, 113, 115, 1000 + 115, 1000 + 110] ?_ ?_); (focus rfl)))
 refine at9 (by go_simp) fun K0 hK => ld_spa _ k hlt rfl rfl (HB.out.ext BX.out).blk (hK _ _ ?_)
 clear hK
 go_wp2_with (first | (with_reducible refine stop_ix ?_) | ((with_reducible refine so4 [112, 1000 + 112, 113, 115, 1000 + 115, 1000 + 110] ?_ ?_); (focus rfl)))
 refine at9 (by go_simp) fun K0 hK => st_pb _ _ w3.heap.size (p k) (some (D2 k)) rfl rfl rfl (Bk.new rfl _ _) (by rfl) (fun w4 hd ho => hK _ _ ?_)
 clear hK
 have x4 : Ex w3 w4 := ho.below w3.heap.size (Nat.le_refl _) w3 (Ex.alloc w3 _)
 obtain ⟨g2, hg⟩ : ∃ g, g = w3.heap.size := ⟨_, rfl⟩
 rw [← hg] at hd ⊢
 have HG2 := Hi hd
 replace HG := Hi (HG.out.ext x4)
 replace BX := Hi (Ex.trans BX.out x4)
 clear hd ho hg x4
 obtain ⟨pk9, hpk⟩ : ∃ q, q = p k := ⟨_, rfl⟩
 rw [← hpk] at HG HG2
 clear hpk
 go_wp2_with fail
 have hS0 : ∀ (listed : Array Bool) (f : Nat → Value), (∀ i, listed.getD i false = false) → SA2 22 25 w4 ((v k).map Vt.ct) ((v2 k).map Vt.ct) listed f w4.drew := fun _ _ h0 => SA2.start h0 (Below.refl w4.heap.size w4).drew
 obtain ⟨T, hT⟩ : ∃ T : List (Value → Prop), T = [(fun zz => zz = .pointer (some ⟨g, 0, none⟩)), (fun zz => zz = .int .i64 pk9.role), (fun zz => zz = .pointer (some ⟨g2, 0, none⟩)), (fun zz => zz = .int .i64 pk9.role), (fun zz => zz = .bool false), (fun zz => zz = .bool false), (fun zz => zz = .pointer (some ⟨g, 1, none⟩)), (fun zz => zz = .int .u64 pk9.ep), (fun zz => zz = .pointer (some ⟨g2, 1, none⟩)), (fun zz => zz = .int .u64 pk9.ep), (fun zz => zz = .bool false), (fun zz => zz = .bool false), (fun zz => zz = .bool false), (fun zz => zz = .pointer (some ⟨g, 2, none⟩)), (fun zz => zz = .int .i64 pk9.tw), (fun zz => zz = .pointer (some ⟨g2, 2, none⟩)), (fun zz => zz = .int .i64 pk9.tw), (fun zz => zz = .bool false), (fun zz => zz = .bool false), (fun zz => zz = .bool false), (fun zz => zz = .pointer (some ⟨g, 3, none⟩)), (fun zz => zz = .pointer (some ⟨D k, 0, none⟩)), (fun _ => True), (fun zz => zz = .pointer (some ⟨g2, 3, none⟩)), (fun zz => zz = .pointer (some ⟨D2 k, 0, none⟩)), (fun _ => True), (fun zz => zz = .bool true), (fun zz => zz = .bool false), (fun zz => zz = .bool false)] := ⟨_, rfl⟩
 refine wp_region_gen (JS T ([] : List (Nat × Nat)) (fun lz fz wz => SA2 22 25 w4 ((v k).map Vt.ct) ((v2 k).map Vt.ct) lz fz wz)) (by kernel_rfl) (by kernel_rfl) (by kernel_rfl) (fitB_spec (by kernel_rfl)) (fun listed f h => JS.start listed f h (hS0 listed f h)) ?_ ?_
 ·intro i o ho
  have hi : i < 29 := (Array.getElem?_eq_some_iff.1 ho).1
  have hi' : i = 0 ∨ i = 1 ∨ i = 2 ∨ i = 3 ∨ i = 4 ∨ i = 5 ∨ i = 6 ∨ i = 7 ∨ i = 8 ∨ i = 9 ∨ i = 10 ∨ i = 11 ∨ i = 12 ∨ i = 13 ∨ i = 14 ∨ i = 15 ∨ i = 16 ∨ i = 17 ∨ i = 18 ∨ i = 19 ∨ i = 20 ∨ i = 21 ∨ i = 22 ∨ i = 23 ∨ i = 24 ∨ i = 25 ∨ i = 26 ∨ i = 27 ∨ i = 28 := by omega
  clear hi
  rcases hi' with rfl | rfl | rfl | rfl | rfl | rfl | rfl | rfl | rfl | rfl | rfl | rfl | rfl | rfl | rfl | rfl | rfl | rfl | rfl | rfl | rfl | rfl | rfl | rfl | rfl | rfl | rfl | rfl | rfl
  all_goals (simp only [List.getElem?_toArray, List.getElem?_cons_zero, List.getElem?_cons_succ, Option.some.injEq] at ho; subst ho; intro listed f a w6 hJ hsz hls hun hdep hout hlat; first | (rw [if_pos (by rfl)]; intro K hK) | skip)
  ·have q6 := hout 6 (outB_spec (by kernel_rfl))
   rw [Array.getD_eq_getD_getElem?] at q6
   clear hsz hdep hout hlat
   go_simp
   exact hK _ _ (hJ.nx hls hT rfl rfl (SA2.plain hJ.st (Ex.refl _) 0 (by decide)) (no_head (by decide)))
  ·have q50 := hJ.iq hT (hdep ⟨0, .data⟩ (by simp) rfl) rfl _ rfl _ rfl
   have cc := (HG.out.ext hJ.st.ex).cells.1
   clear hsz hdep hout hlat
   go_simp
   exact hK _ _ (hJ.nx hls hT rfl rfl (SA2.plain hJ.st (Ex.refl _) 1 (by decide)) (no_head (by decide)))
  ·have q7 := hout 7 (outB_spec (by kernel_rfl))
   rw [Array.getD_eq_getD_getElem?] at q7
   clear hsz hdep hout hlat
   go_simp
   exact hK _ _ (hJ.nx hls hT rfl rfl (SA2.plain hJ.st (Ex.refl _) 2 (by decide)) (no_head (by decide)))
  ·have q52 := hJ.iq hT (hdep ⟨2, .data⟩ (by simp) rfl) rfl _ rfl _ rfl
   have cc := (HG2.out.ext hJ.st.ex).cells.1
   clear hsz hdep hout hlat
   go_simp
   exact hK _ _ (hJ.nx hls hT rfl rfl (SA2.plain hJ.st (Ex.refl _) 3 (by decide)) (no_head (by decide)))
  ·have q51 := hJ.iq hT (hdep ⟨1, .data⟩ (by simp) rfl) rfl _ rfl _ rfl
   have q53 := hJ.iq hT (hdep ⟨3, .data⟩ (by simp) rfl) rfl _ rfl _ rfl
   clear hsz hdep hout hlat
   go_simp
   exact hK _ _ (hJ.nx hls hT rfl (by first | rfl | exact congrArg (Value.int .i64) (by omega) | exact congrArg (Value.int .i64) (by rw [IntKind.wrap_i64]; omega) | exact congrArg Value.bool (decide_eq_false (by omega)) | exact congrArg Value.bool (decide_eq_true (by omega)) | exact congrArg (Value.int .u64) (by omega)) (SA2.plain hJ.st (Ex.refl _) 4 (by decide)) (no_head (by decide)))
  ·have q54 := hJ.is hT (hdep ⟨4, .data⟩ (by simp) rfl) rfl _ rfl _ rfl
   refine wp_mv _ rfl (hK _ _ ?_)
   rw [show a.eval (.tmp 54) = .bool false from q54]
   exact hJ.nx hls hT rfl rfl (SA2.plain hJ.st (Ex.refl _) 5 (by decide)) (no_head (by decide))
  ·have kg := hJ.is hT (hdep ⟨5, .guard⟩ (by simp) rfl) rfl _ rfl _ rfl
   rw [if_pos (wanted_of rfl rfl rfl kg)]
   clear kg
   intro K hK
   have q6 := hout 6 (outB_spec (by kernel_rfl))
   rw [Array.getD_eq_getD_getElem?] at q6
   clear hsz hdep hout hlat
   go_simp
   exact hK _ _ (hJ.nx hls hT rfl rfl (SA2.plain hJ.st (Ex.refl _) 6 (by decide)) (no_head (by decide)))
  ·have kg := hJ.is hT (hdep ⟨5, .guard⟩ (by simp) rfl) rfl _ rfl _ rfl
   rw [if_pos (wanted_of rfl rfl rfl kg)]
   clear kg
   intro K hK
   have q56 := hJ.iq hT (hdep ⟨6, .data⟩ (by simp) rfl) rfl _ rfl _ rfl
   have cc := (HG.out.ext hJ.st.ex).cells.2.1
   clear hsz hdep hout hlat
   go_simp
   exact hK _ _ (hJ.nx hls hT rfl rfl (SA2.plain hJ.st (Ex.refl _) 7 (by decide)) (no_head (by decide)))
  ·have kg := hJ.is hT (hdep ⟨5, .guard⟩ (by simp) rfl) rfl _ rfl _ rfl
   rw [if_pos (wanted_of rfl rfl rfl kg)]
   clear kg
   intro K hK
   have q7 := hout 7 (outB_spec (by kernel_rfl))
   rw [Array.getD_eq_getD_getElem?] at q7
   clear hsz hdep hout hlat
   go_simp
   exact hK _ _ (hJ.nx hls hT rfl rfl (SA2.plain hJ.st (Ex.refl _) 8 (by decide)) (no_head (by decide)))
  ·have kg := hJ.is hT (hdep ⟨5, .guard⟩ (by simp) rfl) rfl _ rfl _ rfl
   rw [if_pos (wanted_of rfl rfl rfl kg)]
   clear kg
   intro K hK
   have q58 := hJ.iq hT (hdep ⟨8, .data⟩ (by simp) rfl) rfl _ rfl _ rfl
   have cc := (HG2.out.ext hJ.st.ex).cells.2.1
   clear hsz hdep hout hlat
   go_simp
   exact hK _ _ (hJ.nx hls hT rfl rfl (SA2.plain hJ.st (Ex.refl _) 9 (by decide)) (no_head (by decide)))
  ·have kg := hJ.is hT (hdep ⟨5, .guard⟩ (by simp) rfl) rfl _ rfl _ rfl
   rw [if_pos (wanted_of rfl rfl rfl kg)]
   clear kg
   intro K hK
   have q57 := hJ.iq hT (hdep ⟨7, .data⟩ (by simp) rfl) rfl _ rfl _ rfl
   have q59 := hJ.iq hT (hdep ⟨9, .data⟩ (by simp) rfl) rfl _ rfl _ rfl
   clear hsz hdep hout hlat
   go_simp
   exact hK _ _ (hJ.nx hls hT rfl (by first | rfl | exact congrArg (Value.int .i64) (by omega) | exact congrArg (Value.int .i64) (by rw [IntKind.wrap_i64]; omega) | exact congrArg Value.bool (decide_eq_false (by omega)) | exact congrArg Value.bool (decide_eq_true (by omega)) | exact congrArg (Value.int .u64) (by omega)) (SA2.plain hJ.st (Ex.refl _) 10 (by decide)) (no_head (by decide)))
  ·have q55 := hJ.iq hT (hdep ⟨5, .data⟩ (by simp) rfl) rfl _ rfl _ rfl
   have q60 := hJ.iq hT (hdep ⟨10, .data⟩ (by simp) rfl) rfl _ rfl _ rfl
   clear hsz hdep hout hlat
   go_simp
   exact hK _ _ (hJ.nx hls hT rfl rfl (SA2.plain hJ.st (Ex.refl _) 11 (by decide)) (no_head (by decide)))
  ·have q61 := hJ.is hT (hdep ⟨11, .data⟩ (by simp) rfl) rfl _ rfl _ rfl
   refine wp_mv _ rfl (hK _ _ ?_)
   rw [show a.eval (.tmp 61) = .bool false from q61]
   exact hJ.nx hls hT rfl rfl (SA2.plain hJ.st (Ex.refl _) 12 (by decide)) (no_head (by decide))
  ·have kg := hJ.is hT (hdep ⟨12, .guard⟩ (by simp) rfl) rfl _ rfl _ rfl
   rw [if_pos (wanted_of rfl rfl rfl kg)]
   clear kg
   intro K hK
   have q6 := hout 6 (outB_spec (by kernel_rfl))
   rw [Array.getD_eq_getD_getElem?] at q6
   clear hsz hdep hout hlat
   go_simp
   exact hK _ _ (hJ.nx hls hT rfl rfl (SA2.plain hJ.st (Ex.refl _) 13 (by decide)) (no_head (by decide)))
  ·have kg := hJ.is hT (hdep ⟨12, .guard⟩ (by simp) rfl) rfl _ rfl _ rfl
   rw [if_pos (wanted_of rfl rfl rfl kg)]
   clear kg
   intro K hK
   have q63 := hJ.iq hT (hdep ⟨13, .data⟩ (by simp) rfl) rfl _ rfl _ rfl
   have cc := (HG.out.ext hJ.st.ex).cells.2.2.1
   clear hsz hdep hout hlat
   go_simp
   exact hK _ _ (hJ.nx hls hT rfl rfl (SA2.plain hJ.st (Ex.refl _) 14 (by decide)) (no_head (by decide)))
  ·have kg := hJ.is hT (hdep ⟨12, .guard⟩ (by simp) rfl) rfl _ rfl _ rfl
   rw [if_pos (wanted_of rfl rfl rfl kg)]
   clear kg
   intro K hK
   have q7 := hout 7 (outB_spec (by kernel_rfl))
   rw [Array.getD_eq_getD_getElem?] at q7
   clear hsz hdep hout hlat
   go_simp
   exact hK _ _ (hJ.nx hls hT rfl rfl (SA2.plain hJ.st (Ex.refl _) 15 (by decide)) (no_head (by decide)))
  ·have kg := hJ.is hT (hdep ⟨12, .guard⟩ (by simp) rfl) rfl _ rfl _ rfl
   rw [if_pos (wanted_of rfl rfl rfl kg)]
   clear kg
   intro K hK
   have q65 := hJ.iq hT (hdep ⟨15, .data⟩ (by simp) rfl) rfl _ rfl _ rfl
   have cc := (HG2.out.ext hJ.st.ex).cells.2.2.1
   clear hsz hdep hout hlat
   go_simp
   exact hK _ _ (hJ.nx hls hT rfl rfl (SA2.plain hJ.st (Ex.refl _) 16 (by decide)) (no_head (by decide)))
  ·have kg := hJ.is hT (hdep ⟨12, .guard⟩ (by simp) rfl) rfl _ rfl _ rfl
   rw [if_pos (wanted_of rfl rfl rfl kg)]
   clear kg
   intro K hK
   have q64 := hJ.iq hT (hdep ⟨14, .data⟩ (by simp) rfl) rfl _ rfl _ rfl
   have q66 := hJ.iq hT (hdep ⟨16, .data⟩ (by simp) rfl) rfl _ rfl _ rfl
   clear hsz hdep hout hlat
   go_simp
   exact hK _ _ (hJ.nx hls hT rfl (by first | rfl | exact congrArg (Value.int .i64) (by omega) | exact congrArg (Value.int .i64) (by rw [IntKind.wrap_i64]; omega) | exact congrArg Value.bool (decide_eq_false (by omega)) | exact congrArg Value.bool (decide_eq_true (by omega)) | exact congrArg (Value.int .u64) (by omega)) (SA2.plain hJ.st (Ex.refl _) 17 (by decide)) (no_head (by decide)))
  ·have q62 := hJ.iq hT (hdep ⟨12, .data⟩ (by simp) rfl) rfl _ rfl _ rfl
   have q67 := hJ.iq hT (hdep ⟨17, .data⟩ (by simp) rfl) rfl _ rfl _ rfl
   clear hsz hdep hout hlat
   go_simp
   exact hK _ _ (hJ.nx hls hT rfl rfl (SA2.plain hJ.st (Ex.refl _) 18 (by decide)) (no_head (by decide)))
  ·have q68 := hJ.is hT (hdep ⟨18, .data⟩ (by simp) rfl) rfl _ rfl _ rfl
   refine wp_mv _ rfl (hK _ _ ?_)
   rw [show a.eval (.tmp 68) = .bool false from q68]
   exact hJ.nx hls hT rfl rfl (SA2.plain hJ.st (Ex.refl _) 19 (by decide)) (no_head (by decide))
  ·have kg := hJ.is hT (hdep ⟨19, .guard⟩ (by simp) rfl) rfl _ rfl _ rfl
   rw [if_pos (wanted_of rfl rfl rfl kg)]
   clear kg
   intro K hK
   have q6 := hout 6 (outB_spec (by kernel_rfl))
   rw [Array.getD_eq_getD_getElem?] at q6
   clear hsz hdep hout hlat
   go_simp
   exact hK _ _ (hJ.nx hls hT rfl rfl (SA2.plain hJ.st (Ex.refl _) 20 (by decide)) (no_head (by decide)))
  ·have kg := hJ.is hT (hdep ⟨19, .guard⟩ (by simp) rfl) rfl _ rfl _ rfl
   rw [if_pos (wanted_of rfl rfl rfl kg)]
   clear kg
   intro K hK
   have q70 := hJ.iq hT (hdep ⟨20, .data⟩ (by simp) rfl) rfl _ rfl _ rfl
   have cc := (show w6.cell? ⟨g, 3, none⟩ = some (.pointer (some ⟨D k, 0, none⟩)) from (HG.out.ext hJ.st.ex).cells.2.2.2)
   clear hsz hdep hout hlat
   go_simp
   exact hK _ _ (hJ.nx hls hT rfl rfl (SA2.plain hJ.st (Ex.refl _) 21 (by decide)) (no_head (by decide)))
  ·have kg := hJ.is hT (hdep ⟨19, .guard⟩ (by simp) rfl) rfl _ rfl _ rfl
   rw [if_pos (wanted_of rfl rfl rfl kg)]
   clear kg
   intro K hK
   have q71 := hJ.iq hT (hdep ⟨21, .data⟩ (by simp) rfl) rfl _ rfl _ rfl
   have hst := hJ.st
   clear hsz hdep hout hlat
   go_simp
   refine (tall_any (D k) (r k) (v k) w6 ((HA.out.ext (Ex.trans BX.out hst.ex)).ts.tb k hlt)).mono ?_
   rintro e wq ⟨v9, ys, rfl, a1, a2, x4⟩
   exact hK _ _ (hJ.nx hls hT rfl (by exact trivial) (SA2.sa hst x4 (by decide) ⟨ys, a1.less hst.ex.sz', a2⟩) (no_head (by decide)))
  ·have kg := hJ.is hT (hdep ⟨19, .guard⟩ (by simp) rfl) rfl _ rfl _ rfl
   rw [if_pos (wanted_of rfl rfl rfl kg)]
   clear kg
   intro K hK
   have q7 := hout 7 (outB_spec (by kernel_rfl))
   rw [Array.getD_eq_getD_getElem?] at q7
   clear hsz hdep hout hlat
   go_simp
   exact hK _ _ (hJ.nx hls hT rfl rfl (SA2.plain hJ.st (Ex.refl _) 23 (by decide)) (no_head (by decide)))
  ·have kg := hJ.is hT (hdep ⟨19, .guard⟩ (by simp) rfl) rfl _ rfl _ rfl
   rw [if_pos (wanted_of rfl rfl rfl kg)]
   clear kg
   intro K hK
   have q73 := hJ.iq hT (hdep ⟨23, .data⟩ (by simp) rfl) rfl _ rfl _ rfl
   have cc := (show w6.cell? ⟨g2, 3, none⟩ = some (.pointer (some ⟨D2 k, 0, none⟩)) from (HG2.out.ext hJ.st.ex).cells.2.2.2)
   clear hsz hdep hout hlat
   go_simp
   exact hK _ _ (hJ.nx hls hT rfl rfl (SA2.plain hJ.st (Ex.refl _) 24 (by decide)) (no_head (by decide)))
  ·have kg := hJ.is hT (hdep ⟨19, .guard⟩ (by simp) rfl) rfl _ rfl _ rfl
   rw [if_pos (wanted_of rfl rfl rfl kg)]
   clear kg
   intro K hK
   have q74 := hJ.iq hT (hdep ⟨24, .data⟩ (by simp) rfl) rfl _ rfl _ rfl
   have hst := hJ.st
   clear hsz hdep hout hlat
   go_simp
   refine (tall_any (D2 k) (r2 k) (v2 k) w6 ((HB.out.ext (Ex.trans BX.out hst.ex)).ts.tb k hlt)).mono ?_
   rintro e wq ⟨v9, ys, rfl, a1, a2, x4⟩
   exact hK _ _ (hJ.nx hls hT rfl (by exact trivial) (SA2.sb hst x4 (by decide) ⟨ys, a1.less hst.ex.sz', a2⟩) (no_head (by decide)))
  ·have kg := hJ.is hT (hdep ⟨19, .guard⟩ (by simp) rfl) rfl _ rfl _ rfl
   rw [if_pos (wanted_of rfl rfl rfl kg)]
   clear kg
   intro K hK
   have dd72 := hdep ⟨22, .data⟩ (by simp) rfl
   have q72 := dd72.2 _ rfl _ rfl
   have dd75 := hdep ⟨25, .data⟩ (by simp) rfl
   have q75 := dd75.2 _ rfl _ rfl
   have hst := hJ.st
   have hl22 := (hdep ⟨22, .data⟩ (by simp) rfl).1
   have hl25 := (hdep ⟨25, .data⟩ (by simp) rfl).1
   obtain ⟨y1, r1, e1⟩ := hst.a hl22
   obtain ⟨y2, r2, e2⟩ := hst.b hl25
   obtain ⟨ad1, cap1, f1, in1, _⟩ := r1.inn3
   obtain ⟨ad2, cap2, f2, in2, _⟩ := r2.inn3
   rw [f1] at q72
   rw [f2] at q75
   have n1 : y1.length ≤ 1000 := by have := congrArg List.length e1; simp only [List.length_map] at this; have := HL9.out k hlt; omega
   have n2 : y2.length ≤ 1000 := by have := congrArg List.length e2; have h8 := congrArg List.length (HV.out k hlt); simp only [List.length_map] at this h8; have := HL9.out k hlt; omega
   rw [Array.getD_eq_getD_getElem?] at q72 q75
   clear hsz hdep hout hlat
   go_simp
   refine (eqf_any ad1 ad2 cap1 cap2 y1 y2 w6 n1 n2 in1 in2 (fun i x hx => (r1.ins i x hx).vi) (fun i x hx => (r2.ins i x hx).vi)).mono ?_
   rintro e wq ⟨rfl, x4⟩
   rw [decide_eq_true (show y1.map Vt.ct = y2.map Vt.ct by rw [e1, e2]; exact HV.out k hlt)]
   exact hK _ _ (hJ.nx hls hT rfl rfl (SA2.plain hst x4 26 (by decide)) (no_head (by decide)))
  ·have kg := hJ.is hT (hdep ⟨19, .guard⟩ (by simp) rfl) rfl _ rfl _ rfl
   rw [if_pos (wanted_of rfl rfl rfl kg)]
   clear kg
   intro K hK
   have q76 := hJ.iq hT (hdep ⟨26, .data⟩ (by simp) rfl) rfl _ rfl _ rfl
   clear hsz hdep hout hlat
   go_simp
   exact hK _ _ (hJ.nx hls hT rfl rfl (SA2.plain hJ.st (Ex.refl _) 27 (by decide)) (no_head (by decide)))
  have q69 := hJ.iq hT (hdep ⟨19, .data⟩ (by simp) rfl) rfl _ rfl _ rfl
  have q77 := hJ.iq hT (hdep ⟨27, .data⟩ (by simp) rfl) rfl _ rfl _ rfl
  clear hsz hdep hout hlat
  go_simp
  exact hK _ _ (hJ.nx hls hT rfl rfl (SA2.plain hJ.st (Ex.refl _) 28 (by decide)) (no_head (by decide)))
 intro listed f w6 hall hJ
 have f28 : f 28 = .bool false := by
  have h := hJ.vals 28 (hall 28 (by simp))
  rw [hT] at h; exact h
 have hst := hJ.st
 simp only [putAll, Act.put, List.setIfInBounds_toArray, List.set_cons_zero, List.set_cons_succ, Nat.zero_add, Nat.reduceAdd]
 have xx := hst.ex
 replace BX := Hi (Ex.trans BX.out xx)
 clear xx HG HG2
 rw [f28]
 clear f28
 clear hJ hall hT
 clear hst hS0
 go_wp2_with fail
 (first | (refine ⟨?_, ?measure⟩; (repeat apply Exists.intro); refine ⟨?rel, rfl⟩) | refine ⟨?rel, ?measure⟩)
 case rel => exact ⟨k + 1, by omega, by go_num, BX⟩
 case measure => simp [intOf]; omega
end Go.Proofs.Ytmjfnpmnhehnkaa
