/- Ri, Rj, Rl, Rs, Rm -/
import Derived.Test.YtmjfnpmnhehnkaaQbj
import Derived.Test.YtmjfnpmnhehnkaaQbk
set_option maxRecDepth 100000
set_option maxHeartbeats 16000000
namespace Go.Proofs.Ytmjfnpmnhehnkaa
open Go.RowKit
structure SA2 (ia ib : Nat) (w0 : World) (C1 C2 : List Vc) (l : Array Bool) (f : Nat → Value) (w : World) : Prop where
 ex : Ex w0 w
 a : l.getD ia false = true → ∃ ys : List Vt, VRow w w0.heap.size (f ia) ys ∧ ys.map Vt.ct = C1
 b : l.getD ib false = true → ∃ ys : List Vt, VRow w w0.heap.size (f ib) ys ∧ ys.map Vt.ct = C2
section
variable {ia ib : Nat} {w0 w w' : World} {C1 C2 : List Vc} {l : Array Bool} {f : Nat → Value} {x : Value}
theorem ifp {c : Prop} [Decidable c] {A B : Prop} (h : c) (k : A) : if c then A else B := by rw [if_pos h]; exact k
theorem SA2.start (h0 : ∀ i, l.getD i false = false) (hx : Ex w0 w) : SA2 ia ib w0 C1 C2 l f w := ⟨hx, (fun a => by rw [h0] at a; cases a), (fun a => by rw [h0] at a; cases a)⟩
theorem SA2.plain (h : SA2 ia ib w0 C1 C2 l f w) (kx : Ex w w') (i : Nat) (hi : i ≠ ia ∧ i ≠ ib) : SA2 ia ib w0 C1 C2 (l.setIfInBounds i true) (upd f i x) w' := by
 refine ⟨Ex.trans h.ex kx, fun a => ?_, fun a => ?_⟩
 ·rw [gset hi.1 false] at a; rw [upd_ne _ _ (Ne.symm hi.1)]; obtain ⟨ys, h1, h2⟩ := h.a a; exact ⟨ys, h1.ext kx, h2⟩
 rw [gset hi.2 false] at a; rw [upd_ne _ _ (Ne.symm hi.2)]; obtain ⟨ys, h1, h2⟩ := h.b a; exact ⟨ys, h1.ext kx, h2⟩
theorem SA2.sa (h : SA2 ia ib w0 C1 C2 l f w) (kx : Ex w w') (hne : ia ≠ ib) (hr : ∃ ys : List Vt, VRow w' w0.heap.size x ys ∧ ys.map Vt.ct = C1) : SA2 ia ib w0 C1 C2 (l.setIfInBounds ia true) (upd f ia x) w' := by
 refine ⟨Ex.trans h.ex kx, fun _ => ?_, fun a => ?_⟩
 ·rw [upd_same]; exact hr
 rw [gset hne false] at a; rw [upd_ne _ _ (Ne.symm hne)]; obtain ⟨ys, h1, h2⟩ := h.b a; exact ⟨ys, h1.ext kx, h2⟩
theorem SA2.sb (h : SA2 ia ib w0 C1 C2 l f w) (kx : Ex w w') (hne : ia ≠ ib) (hr : ∃ ys : List Vt, VRow w' w0.heap.size x ys ∧ ys.map Vt.ct = C2) : SA2 ia ib w0 C1 C2 (l.setIfInBounds ib true) (upd f ib x) w' := by
 refine ⟨Ex.trans h.ex kx, fun a => ?_, fun _ => ?_⟩
 ·rw [gset (Ne.symm hne) false] at a; rw [upd_ne _ _ hne]; obtain ⟨ys, h1, h2⟩ := h.a a; exact ⟨ys, h1.ext kx, h2⟩
 rw [upd_same]; exact hr
end
theorem ssame_eq (B M B2 M2 : Nat) (m n : Int) (p : Nat → Pa) (D D2 : Nat → Nat) (r r2 : Nat → Value) (v v2 : Nat → List Vt) (w : World) (h1 : SS w B M m n p D r v) (h2 : SS w B2 M2 m n p D2 r2 v2) (hv : ∀ i, i < 16 → (v i).map Vt.ct = (v2 i).map Vt.ct) (hl : ∀ i, i < 16 → (v i).length ≤ 1000) : Calls Try.prog 25 #[.pointer (some ⟨M, 0, none⟩), .pointer (some ⟨M2, 0, none⟩)] w fun e w' => e = .returned (.bool true) ∧ Ex w w' := by
 have HA := Hi h1
 have HB := Hi h2
 have HV := Hi hv
 have HL9 := Hi hl
 clear h1 h2 hv hl
 go_enter Try.func25, Try.ntmps25
 go_wp2_with fail
 have cq1 := HA.out.heads.1
 have cq2 := HA.out.heads.2
 have cq3 := HB.out.heads.1
 have cq4 := HB.out.heads.2
 go_quiet (fail)
 have xx : Ex w (w.drewN nq) := ex_drewN w nq
 generalize hwn : w.drewN nq = w1 at *
 clear hwn
 clear cq1 cq2 cq3 cq4
 have X1 := Hi xx
 clear xx
 go_wp2_with (first | (with_reducible refine stop_ix ?_) | ((with_reducible refine so4 [112, 1000 + 112, 113, 115, 1000 + 115, 1000 + 110] ?_ ?_); (focus rfl)))
 refine at9 (by go_simp) fun K0 hK => ld_sps _ rfl rfl (HA.out.ext X1.out).blk (hK _ _ ?_)
 clear hK
 go_wp2_with (first | (with_reducible refine stop_ix ?_) | ((with_reducible refine so4 [112, 1000 + 112, 113, 115, 1000 + 115, 1000 + 110] ?_ ?_); (focus rfl)))
 go_loopw [40] (fun i wr => ∃ k : Nat, k ≤ 16 ∧ i = .int .i64 k ∧ Hid (Ex w wr)) (fun i _ => 16 - (intOf i).toNat)
 case atStart => exact ⟨0, by omega, rfl, X1⟩
 clear X1
 obtain ⟨k, hk, rfl, BX⟩ := hrel
 by_cases hlt : k < 16
 rotate_left
 ·obtain rfl : k = 16 := by omega
  go_wp2_with fail
  go_ret
  exact ⟨rfl, BX.out⟩
 have q0 : (0 : Int) ≤ (k : Int) := by omega
 have q1 : (k : Int) < 16 := by omega
 go_wp2_with (first | (with_reducible refine stop_ix ?_) | ((with_reducible refine so4 [112, 1000 + 112, 113, 115, 1000 + 115, 1000 + 110] ?_ ?_); (focus rfl)))
 refine at9 (by go_simp) fun K0 hK => wp_ixs _ _ p (fun i => some (D i)) k hlt rfl rfl rfl (hK _ _ ?_)
 clear hK
 go_wp2_with (first | (with_reducible refine stop_ix ?_) | ((with_reducible refine so4 [112, 1000 + 112, 113, 115, 1000 + 115, 1000 + 110] ?_ ?_); (focus rfl)))
 refine at9 (by go_simp) fun K0 hK => st_pb _ _ wr.heap.size (p k) (some (D k)) rfl rfl rfl (Bk.new rfl _ _) (by rfl) (fun w3 hd ho => hK _ _ ?_)
 clear hK
 have x3 : Ex wr w3 := ho.below wr.heap.size (Nat.le_refl _) wr (Ex.alloc wr _)
 obtain ⟨g, hg⟩ : ∃ g, g = wr.heap.size := ⟨_, rfl⟩
 rw [← hg] at hd ⊢
 have HG := Hi hd
 replace BX := Hi (Ex.trans BX.out x3)
 clear hd ho hg x3
 go_wp2_with (first | (with_reducible refine stop_ix ?_) | ((with_reducible refine so4 [112, 1000 + 112, 113, 115, 1000 + 115, 1000 + 110] ?_ ?_); (focus rfl)))
 refine at9 (by go_simp) fun K0 hK => ld_spa _ k hlt rfl rfl (HB.out.ext BX.out).blk (hK _ _ ?_)
 clear hK
 go_wp2_with (first | (with_reducible refine stop_ix ?_) | ((with_reducible refine so4 [112, 1000 + 112, 113, 115, 1000 + 115, 1000 + 110] ?_ ?_); (focus rfl)))
 refine at9 (by go_simp) fun K0 hK => st_pb _ _ w3.heap.size (p k) (some (D2 k)) rfl rfl rfl (Bk.new rfl _ _) (by rfl) (fun w4 hd ho => hK _ _ ?_)
 clear hK
 have x4 : Ex w3 w4 := ho.below w3.heap.size (Nat.le_refl _) w3 (Ex.alloc w3 _)
 obtain ⟨g2, hg⟩ : ∃ g, g = w3.heap.size := ⟨_, rfl⟩
 rw [← hg] at hd ⊢
 have HG2 := Hi hd
 replace HG := Hi (HG.out.ext x4)
 replace BX := Hi (Ex.trans BX.out x4)
 clear hd ho hg x4
 obtain ⟨pk9, hpk⟩ : ∃ q, q = p k := ⟨_, rfl⟩
 rw [← hpk] at HG HG2
 clear hpk
 go_wp2_with fail
 have hS0 : ∀ (listed : Array Bool) (f : Nat → Value), (∀ i, listed.getD i false = false) → SA2 22 25 w4 ((v k).map Vt.ct) ((v2 k).map Vt.ct) listed f w4.drew := fun _ _ h0 => SA2.start h0 (Below.refl w4.heap.size w4).drew
 obtain ⟨T, hT⟩ : ∃ T : List (Value → Prop), T = [(fun zz => zz = .pointer (some ⟨g, 0, none⟩)), (fun zz => zz = .int .i64 pk9.role), (fun zz => zz = .pointer (some ⟨g2, 0, none⟩)), (fun zz => zz = .int .i64 pk9.role), (fun zz => zz = .bool false), (fun zz => zz = .bool false), (fun zz => zz = .pointer (some ⟨g, 1, none⟩)), (fun zz => zz = .int .u64 pk9.ep), (fun zz => zz = .pointer (some ⟨g2, 1, none⟩)), (fun zz => zz = .int .u64 pk9.ep), (fun zz => zz = .bool false), (fun zz => zz = .bool false), (fun zz => zz = .bool false), (fun zz => zz = .pointer (some ⟨g, 2, none⟩)), (fun zz => zz = .int .i64 pk9.tw), (fun zz => zz = .pointer (some ⟨g2, 2, none⟩)), (fun zz => zz = .int .i64 pk9.tw), (fun zz => zz = .bool false), (fun zz => zz = .bool false), (fun zz => zz = .bool false), (fun zz => zz = .pointer (some ⟨g, 3, none⟩)), (fun zz => zz = .pointer (some ⟨D k, 0, none⟩)), (fun _ => True), (fun zz => zz = .pointer (some ⟨g2, 3, none⟩)), (fun zz => zz = .pointer (some ⟨D2 k, 0, none⟩)), (fun _ => True), (fun zz => zz = .bool true), (fun zz => zz = .bool false), (fun zz => zz = .bool false)] := ⟨_, rfl⟩
 refine wp_region_gen (JS T ([] : List (Nat × Nat)) (fun lz fz wz => SA2 22 25 w4 ((v k).map Vt.ct) ((v2 k).map Vt.ct) lz fz wz)) (by kernel_rfl) (by kernel_rfl) (by kernel_rfl) (fitB_spec (by kernel_rfl)) (fun listed f h => JS.start listed f h (hS0 listed f h)) ?_ ?_
 ·intro i o ho
  have hi : i < 29 := (Array.getElem?_eq_some_iff.1 ho).1
  have hi' : i = 0 ∨ i = 1 ∨ i = 2 ∨ i = 3 ∨ i = 4 ∨ i = 5 ∨ i = 6 ∨ i = 7 ∨ i = 8 ∨ i = 9 ∨ i = 10 ∨ i = 11 ∨ i = 12 ∨ i = 13 ∨ i = 14 ∨ i = 15 ∨ i = 16 ∨ i = 17 ∨ i = 18 ∨ i = 19 ∨ i = 20 ∨ i = 21 ∨ i = 22 ∨ i = 23 ∨ i = 24 ∨ i = 25 ∨ i = 26 ∨ i = 27 ∨ i = 28 := by omega
  clear hi
  rcases hi' with rfl | rfl | rfl | rfl | rfl | rfl | rfl | rfl | rfl | rfl | rfl | rfl | rfl | rfl | rfl | rfl | rfl | rfl | rfl | rfl | rfl | rfl | rfl | rfl | rfl | rfl | rfl | rfl | rfl
  all_goals (simp only [List.getElem?_toArray, List.getElem?_cons_zero, List.getElem?_cons_succ, Option.some.injEq] at ho; subst ho; intro listed f a w6 hJ hsz hls hun hdep hout hlat; first | (rw [if_pos (by rfl)]; intro K hK) | skip)
  ·have q6 := hout 6 ob
   have hord := nil_ord 0 listed
   rw [gd9] at q6
   clear hsz hdep hout hlat
   go_simp
   exact hK _ _ (hJ.nx hls hT rfl rfl (SA2.plain hJ.st (Ex.refl _) 0 (by decide)) hord)
  ·have q50 := hJ.is hT (hdep ⟨0, .data⟩ (by simp) rfl) rfl _ rfl _ rfl
   have hord := nil_ord 1 listed
   have cc := (HG.out.ext hJ.st.ex).cells.1
   rw [gd9] at q50
   clear hsz hdep hout hlat
   go_simp
   exact hK _ _ (hJ.nx hls hT rfl rfl (SA2.plain hJ.st (Ex.refl _) 1 (by decide)) hord)
  ·have q7 := hout 7 ob
   have hord := nil_ord 2 listed
   rw [gd9] at q7
   clear hsz hdep hout hlat
   go_simp
   exact hK _ _ (hJ.nx hls hT rfl rfl (SA2.plain hJ.st (Ex.refl _) 2 (by decide)) hord)
  ·have q52 := hJ.is hT (hdep ⟨2, .data⟩ (by simp) rfl) rfl _ rfl _ rfl
   have hord := nil_ord 3 listed
   have cc := (HG2.out.ext hJ.st.ex).cells.1
   rw [gd9] at q52
   clear hsz hdep hout hlat
   go_simp
   exact hK _ _ (hJ.nx hls hT rfl rfl (SA2.plain hJ.st (Ex.refl _) 3 (by decide)) hord)
  ·have q51 := hJ.is hT (hdep ⟨1, .data⟩ (by simp) rfl) rfl _ rfl _ rfl
   have q53 := hJ.is hT (hdep ⟨3, .data⟩ (by simp) rfl) rfl _ rfl _ rfl
   have hord := nil_ord 4 listed
   rw [gd9] at q51
   rw [gd9] at q53
   clear hsz hdep hout hlat
   go_simp
   exact hK _ _ (hJ.nx hls hT rfl (by first | rfl | exact congrArg (Value.int .i64) (by omega) | exact congrArg (Value.int .i64) (by rw [IntKind.wrap_i64]; omega) | exact congrArg Value.bool (decide_eq_false (by omega)) | exact congrArg Value.bool (decide_eq_true (by omega)) | exact congrArg (Value.int .u64) (by omega)) (SA2.plain hJ.st (Ex.refl _) 4 (by decide)) hord)
  ·have q54 := hJ.is hT (hdep ⟨4, .data⟩ (by simp) rfl) rfl _ rfl _ rfl
   have hord := nil_ord 5 listed
   exact wp_mw _ rfl q54 (hK _ _ (hJ.nx hls hT rfl rfl (SA2.plain hJ.st (Ex.refl _) 5 (by decide)) hord))
  ·refine ifp (wanted_of rfl rfl rfl (hJ.is hT (hdep ⟨5, .guard⟩ (by simp) rfl) rfl _ rfl _ rfl)) fun K hK => ?_
   have q6 := hout 6 ob
   have hord := nil_ord 6 listed
   rw [gd9] at q6
   clear hsz hdep hout hlat
   go_simp
   exact hK _ _ (hJ.nx hls hT rfl rfl (SA2.plain hJ.st (Ex.refl _) 6 (by decide)) hord)
  ·refine ifp (wanted_of rfl rfl rfl (hJ.is hT (hdep ⟨5, .guard⟩ (by simp) rfl) rfl _ rfl _ rfl)) fun K hK => ?_
   have q56 := hJ.is hT (hdep ⟨6, .data⟩ (by simp) rfl) rfl _ rfl _ rfl
   have hord := nil_ord 7 listed
   have cc := (HG.out.ext hJ.st.ex).cells.2.1
   rw [gd9] at q56
   clear hsz hdep hout hlat
   go_simp
   exact hK _ _ (hJ.nx hls hT rfl rfl (SA2.plain hJ.st (Ex.refl _) 7 (by decide)) hord)
  ·refine ifp (wanted_of rfl rfl rfl (hJ.is hT (hdep ⟨5, .guard⟩ (by simp) rfl) rfl _ rfl _ rfl)) fun K hK => ?_
   have q7 := hout 7 ob
   have hord := nil_ord 8 listed
   rw [gd9] at q7
   clear hsz hdep hout hlat
   go_simp
   exact hK _ _ (hJ.nx hls hT rfl rfl (SA2.plain hJ.st (Ex.refl _) 8 (by decide)) hord)
  ·refine ifp (wanted_of rfl rfl rfl (hJ.is hT (hdep ⟨5, .guard⟩ (by simp) rfl) rfl _ rfl _ rfl)) fun K hK => ?_
   have q58 := hJ.is hT (hdep ⟨8, .data⟩ (by simp) rfl) rfl _ rfl _ rfl
   have hord := nil_ord 9 listed
   have cc := (HG2.out.ext hJ.st.ex).cells.2.1
   rw [gd9] at q58
   clear hsz hdep hout hlat
   go_simp
   exact hK _ _ (hJ.nx hls hT rfl rfl (SA2.plain hJ.st (Ex.refl _) 9 (by decide)) hord)
  ·refine ifp (wanted_of rfl rfl rfl (hJ.is hT (hdep ⟨5, .guard⟩ (by simp) rfl) rfl _ rfl _ rfl)) fun K hK => ?_
   have q57 := hJ.is hT (hdep ⟨7, .data⟩ (by simp) rfl) rfl _ rfl _ rfl
   have q59 := hJ.is hT (hdep ⟨9, .data⟩ (by simp) rfl) rfl _ rfl _ rfl
   have hord := nil_ord 10 listed
   rw [gd9] at q57
   rw [gd9] at q59
   clear hsz hdep hout hlat
   go_simp
   exact hK _ _ (hJ.nx hls hT rfl (by first | rfl | exact congrArg (Value.int .i64) (by omega) | exact congrArg (Value.int .i64) (by rw [IntKind.wrap_i64]; omega) | exact congrArg Value.bool (decide_eq_false (by omega)) | exact congrArg Value.bool (decide_eq_true (by omega)) | exact congrArg (Value.int .u64) (by omega)) (SA2.plain hJ.st (Ex.refl _) 10 (by decide)) hord)
  ·have q55 := hJ.is hT (hdep ⟨5, .data⟩ (by simp) rfl) rfl _ rfl _ rfl
   have q60 := hJ.is hT (hdep ⟨10, .data⟩ (by simp) rfl) rfl _ rfl _ rfl
   have hord := nil_ord 11 listed
   rw [gd9] at q55
   rw [gd9] at q60
   clear hsz hdep hout hlat
   go_simp
   exact hK _ _ (hJ.nx hls hT rfl rfl (SA2.plain hJ.st (Ex.refl _) 11 (by decide)) hord)
  ·have q61 := hJ.is hT (hdep ⟨11, .data⟩ (by simp) rfl) rfl _ rfl _ rfl
   have hord := nil_ord 12 listed
   exact wp_mw _ rfl q61 (hK _ _ (hJ.nx hls hT rfl rfl (SA2.plain hJ.st (Ex.refl _) 12 (by decide)) hord))
  ·refine ifp (wanted_of rfl rfl rfl (hJ.is hT (hdep ⟨12, .guard⟩ (by simp) rfl) rfl _ rfl _ rfl)) fun K hK => ?_
   have q6 := hout 6 ob
   have hord := nil_ord 13 listed
   rw [gd9] at q6
   clear hsz hdep hout hlat
   go_simp
   exact hK _ _ (hJ.nx hls hT rfl rfl (SA2.plain hJ.st (Ex.refl _) 13 (by decide)) hord)
  ·refine ifp (wanted_of rfl rfl rfl (hJ.is hT (hdep ⟨12, .guard⟩ (by simp) rfl) rfl _ rfl _ rfl)) fun K hK => ?_
   have q63 := hJ.is hT (hdep ⟨13, .data⟩ (by simp) rfl) rfl _ rfl _ rfl
   have hord := nil_ord 14 listed
   have cc := (HG.out.ext hJ.st.ex).cells.2.2.1
   rw [gd9] at q63
   clear hsz hdep hout hlat
   go_simp
   exact hK _ _ (hJ.nx hls hT rfl rfl (SA2.plain hJ.st (Ex.refl _) 14 (by decide)) hord)
  ·refine ifp (wanted_of rfl rfl rfl (hJ.is hT (hdep ⟨12, .guard⟩ (by simp) rfl) rfl _ rfl _ rfl)) fun K hK => ?_
   have q7 := hout 7 ob
   have hord := nil_ord 15 listed
   rw [gd9] at q7
   clear hsz hdep hout hlat
   go_simp
   exact hK _ _ (hJ.nx hls hT rfl rfl (SA2.plain hJ.st (Ex.refl _) 15 (by decide)) hord)
  ·refine ifp (wanted_of rfl rfl rfl (hJ.is hT (hdep ⟨12, .guard⟩ (by simp) rfl) rfl _ rfl _ rfl)) fun K hK => ?_
   have q65 := hJ.is hT (hdep ⟨15, .data⟩ (by simp) rfl) rfl _ rfl _ rfl
   have hord := nil_ord 16 listed
   have cc := (HG2.out.ext hJ.st.ex).cells.2.2.1
   rw [gd9] at q65
   clear hsz hdep hout hlat
   go_simp
   exact hK _ _ (hJ.nx hls hT rfl rfl (SA2.plain hJ.st (Ex.refl _) 16 (by decide)) hord)
  ·refine ifp (wanted_of rfl rfl rfl (hJ.is hT (hdep ⟨12, .guard⟩ (by simp) rfl) rfl _ rfl _ rfl)) fun K hK => ?_
   have q64 := hJ.is hT (hdep ⟨14, .data⟩ (by simp) rfl) rfl _ rfl _ rfl
   have q66 := hJ.is hT (hdep ⟨16, .data⟩ (by simp) rfl) rfl _ rfl _ rfl
   have hord := nil_ord 17 listed
   rw [gd9] at q64
   rw [gd9] at q66
   clear hsz hdep hout hlat
   go_simp
   exact hK _ _ (hJ.nx hls hT rfl (by first | rfl | exact congrArg (Value.int .i64) (by omega) | exact congrArg (Value.int .i64) (by rw [IntKind.wrap_i64]; omega) | exact congrArg Value.bool (decide_eq_false (by omega)) | exact congrArg Value.bool (decide_eq_true (by omega)) | exact congrArg (Value.int .u64) (by omega)) (SA2.plain hJ.st (Ex.refl _) 17 (by decide)) hord)
  ·have q62 := hJ.is hT (hdep ⟨12, .data⟩ (by simp) rfl) rfl _ rfl _ rfl
   have q67 := hJ.is hT (hdep ⟨17, .data⟩ (by simp) rfl) rfl _ rfl _ rfl
   have hord := nil_ord 18 listed
   rw [gd9] at q62
   rw [gd9] at q67
   clear hsz hdep hout hlat
   go_simp
   exact hK _ _ (hJ.nx hls hT rfl rfl (SA2.plain hJ.st (Ex.refl _) 18 (by decide)) hord)
  ·have q68 := hJ.is hT (hdep ⟨18, .data⟩ (by simp) rfl) rfl _ rfl _ rfl
   have hord := nil_ord 19 listed
   exact wp_mw _ rfl q68 (hK _ _ (hJ.nx hls hT rfl rfl (SA2.plain hJ.st (Ex.refl _) 19 (by decide)) hord))
  ·refine ifp (wanted_of rfl rfl rfl (hJ.is hT (hdep ⟨19, .guard⟩ (by simp) rfl) rfl _ rfl _ rfl)) fun K hK => ?_
   have q6 := hout 6 ob
   have hord := nil_ord 20 listed
   rw [gd9] at q6
   clear hsz hdep hout hlat
   go_simp
   exact hK _ _ (hJ.nx hls hT rfl rfl (SA2.plain hJ.st (Ex.refl _) 20 (by decide)) hord)
  ·refine ifp (wanted_of rfl rfl rfl (hJ.is hT (hdep ⟨19, .guard⟩ (by simp) rfl) rfl _ rfl _ rfl)) fun K hK => ?_
   have q70 := hJ.is hT (hdep ⟨20, .data⟩ (by simp) rfl) rfl _ rfl _ rfl
   have hord := nil_ord 21 listed
   have cc := (show w6.cell? ⟨g, 3, none⟩ = some (.pointer (some ⟨D k, 0, none⟩)) from (HG.out.ext hJ.st.ex).cells.2.2.2)
   rw [gd9] at q70
   clear hsz hdep hout hlat
   go_simp
   exact hK _ _ (hJ.nx hls hT rfl rfl (SA2.plain hJ.st (Ex.refl _) 21 (by decide)) hord)
  ·refine ifp (wanted_of rfl rfl rfl (hJ.is hT (hdep ⟨19, .guard⟩ (by simp) rfl) rfl _ rfl _ rfl)) fun K hK => ?_
   have q71 := hJ.is hT (hdep ⟨21, .data⟩ (by simp) rfl) rfl _ rfl _ rfl
   have hord := nil_ord 22 listed
   have hst := hJ.st
   rw [gd9] at q71
   clear hsz hdep hout hlat
   go_simp
   refine (tall_any (D k) (r k) (v k) w6 ((HA.out.ext (Ex.trans BX.out hst.ex)).ts.tb k hlt)).mono ?_
   rintro e wq ⟨v9, ys, rfl, a1, a2, x4⟩
   exact hK _ _ (hJ.nx hls hT rfl (by exact trivial) (SA2.sa hst x4 (by decide) ⟨ys, a1.less hst.ex.sz', a2⟩) hord)
  ·refine ifp (wanted_of rfl rfl rfl (hJ.is hT (hdep ⟨19, .guard⟩ (by simp) rfl) rfl _ rfl _ rfl)) fun K hK => ?_
   have q7 := hout 7 ob
   have hord := nil_ord 23 listed
   rw [gd9] at q7
   clear hsz hdep hout hlat
   go_simp
   exact hK _ _ (hJ.nx hls hT rfl rfl (SA2.plain hJ.st (Ex.refl _) 23 (by decide)) hord)
  ·refine ifp (wanted_of rfl rfl rfl (hJ.is hT (hdep ⟨19, .guard⟩ (by simp) rfl) rfl _ rfl _ rfl)) fun K hK => ?_
   have q73 := hJ.is hT (hdep ⟨23, .data⟩ (by simp) rfl) rfl _ rfl _ rfl
   have hord := nil_ord 24 listed
   have cc := (show w6.cell? ⟨g2, 3, none⟩ = some (.pointer (some ⟨D2 k, 0, none⟩)) from (HG2.out.ext hJ.st.ex).cells.2.2.2)
   rw [gd9] at q73
   clear hsz hdep hout hlat
   go_simp
   exact hK _ _ (hJ.nx hls hT rfl rfl (SA2.plain hJ.st (Ex.refl _) 24 (by decide)) hord)
  ·refine ifp (wanted_of rfl rfl rfl (hJ.is hT (hdep ⟨19, .guard⟩ (by simp) rfl) rfl _ rfl _ rfl)) fun K hK => ?_
   have q74 := hJ.is hT (hdep ⟨24, .data⟩ (by simp) rfl) rfl _ rfl _ rfl
   have hord := nil_ord 25 listed
   have hst := hJ.st
   rw [gd9] at q74
   clear hsz hdep hout hlat
   go_simp
   refine (tall_any (D2 k) (r2 k) (v2 k) w6 ((HB.out.ext (Ex.trans BX.out hst.ex)).ts.tb k hlt)).mono ?_
   rintro e wq ⟨v9, ys, rfl, a1, a2, x4⟩
   exact hK _ _ (hJ.nx hls hT rfl (by exact trivial) (SA2.sb hst x4 (by decide) ⟨ys, a1.less hst.ex.sz', a2⟩) hord)
  ·refine ifp (wanted_of rfl rfl rfl (hJ.is hT (hdep ⟨19, .guard⟩ (by simp) rfl) rfl _ rfl _ rfl)) fun K hK => ?_
   have dd72 := hdep ⟨22, .data⟩ (by simp) rfl
   have q72 := dd72.2 _ rfl _ rfl
   have dd75 := hdep ⟨25, .data⟩ (by simp) rfl
   have q75 := dd75.2 _ rfl _ rfl
   have hord := nil_ord 26 listed
   have hst := hJ.st
   have hl22 := (hdep ⟨22, .data⟩ (by simp) rfl).1
   have hl25 := (hdep ⟨25, .data⟩ (by simp) rfl).1
   obtain ⟨y1, r1, e1⟩ := hst.a hl22
   obtain ⟨y2, r2, e2⟩ := hst.b hl25
   obtain ⟨ad1, cap1, f1, in1, _⟩ := r1.inn3
   obtain ⟨ad2, cap2, f2, in2, _⟩ := r2.inn3
   rw [f1] at q72
   rw [f2] at q75
   have n1 : y1.length ≤ 1000 := by have := congrArg List.length e1; simp only [List.length_map] at this; have := HL9.out k hlt; omega
   have n2 : y2.length ≤ 1000 := by have := congrArg List.length e2; have h8 := congrArg List.length (HV.out k hlt); simp only [List.length_map] at this h8; have := HL9.out k hlt; omega
   rw [gd9] at q72
   rw [gd9] at q75
   clear hsz hdep hout hlat
   go_simp
   refine (eqf_any ad1 ad2 cap1 cap2 y1 y2 w6 n1 n2 in1 in2 (fun i x hx => (r1.ins i x hx).vi) (fun i x hx => (r2.ins i x hx).vi)).mono ?_
   rintro e wq ⟨rfl, x4⟩
   rw [decide_eq_true (show y1.map Vt.ct = y2.map Vt.ct by rw [e1, e2]; exact HV.out k hlt)]
   exact hK _ _ (hJ.nx hls hT rfl rfl (SA2.plain hst x4 26 (by decide)) hord)
  ·refine ifp (wanted_of rfl rfl rfl (hJ.is hT (hdep ⟨19, .guard⟩ (by simp) rfl) rfl _ rfl _ rfl)) fun K hK => ?_
   have q76 := hJ.is hT (hdep ⟨26, .data⟩ (by simp) rfl) rfl _ rfl _ rfl
   have hord := nil_ord 27 listed
   rw [gd9] at q76
   clear hsz hdep hout hlat
   go_simp
   exact hK _ _ (hJ.nx hls hT rfl rfl (SA2.plain hJ.st (Ex.refl _) 27 (by decide)) hord)
  have q69 := hJ.is hT (hdep ⟨19, .data⟩ (by simp) rfl) rfl _ rfl _ rfl
  have q77 := hJ.is hT (hdep ⟨27, .data⟩ (by simp) rfl) rfl _ rfl _ rfl
  have hord := nil_ord 28 listed
  rw [gd9] at q69
  rw [gd9] at q77
  clear hsz hdep hout hlat
  go_simp
  exact hK _ _ (hJ.nx hls hT rfl rfl (SA2.plain hJ.st (Ex.refl _) 28 (by decide)) hord)
 intro listed f w6 hall hJ
 have f28 := hJ.fa hT (hall 28 (by simp)) rfl
 have hst := hJ.st
 simp only [putAll, Act.put, List.setIfInBounds_toArray, List.set_cons_zero, List.set_cons_succ, Nat.zero_add, Nat.reduceAdd]
 have xx := hst.ex
 replace BX := Hi (Ex.trans BX.out xx)
 clear xx HG HG2
 rw [f28]
 clear f28
 clear hJ hall hT
 clear hst hS0
 go_wp2_with fail
 (first | (refine ⟨?_, ?measure⟩; (repeat apply Exists.intro); refine ⟨?rel, rfl⟩) | refine ⟨?rel, ?measure⟩)
 case rel => exact ⟨k + 1, by omega, by go_num, BX⟩
 case measure => simp [intOf]; omega
structure SFr (M : Nat) (D : Nat → Nat) (r : Nat → Value) (w w' : World) : Prop where
  os : w'.os = w.os
  tape : w'.tape = w.tape
  output : w'.output = w.output
  size : w.heap.size ≤ w'.heap.size
  block : ∀ k, k < w.heap.size → k ≠ M → (∀ i, i < 16 → k ≠ D i ∧ some k ≠ (r i).ownBlock) → w'.heap[k]? = w.heap[k]?
theorem Ex.sfr {w w' : World} (M : Nat) (D : Nat → Nat) (r : Nat → Value) (h : Ex w w') : SFr M D r w w' := ⟨h.os, h.tape, h.output, Below.size h, fun k hk _ _ => h.block k hk⟩
theorem Tc.sfr {w w' : World} {M s : Nat} {D : Nat → Nat} {r : Nat → Value} (hs : s < 16) (h : Tc (D s) (r s).ownBlock w w') : SFr M D r w w' := ⟨h.os, h.tape, h.output, h.size, fun k hk _ hd => h.block k hk (hd s hs).1 (hd s hs).2⟩
theorem Md.sfr {w w' : World} {M : Nat} {D : Nat → Nat} {r : Nat → Value} (h : Md M w w') : SFr M D r w w' := by
  have hb := h.below 0 (Nat.zero_le _) w (Below.refl 0 w)
  exact ⟨hb.os, hb.tape, hb.output, h.size, fun k hk hm _ => h.other k hm hk⟩
theorem Md2.sfr {w w' : World} {M s : Nat} {D : Nat → Nat} {r : Nat → Value} (hs : s < 16) (h : Md2 M (D s) w w') : SFr M D r w w' := by
  obtain ⟨wm, h1, h2⟩ := h
  have b1 := h1.below 0 (Nat.zero_le _) w (Below.refl 0 w)
  have b2 := h2.below 0 (Nat.zero_le _) wm (Below.refl 0 wm)
  exact ⟨b2.os.trans b1.os, b2.tape.trans b1.tape, b2.output.trans b1.output, Nat.le_trans h1.size h2.size, fun k hk hm hd => (h2.other k (hd s hs).1 (Nat.lt_of_lt_of_le hk h1.size)).trans (h1.other k hm hk)⟩
section
variable {w0 w w' : World} {B M : Nat} {m n : Int} {p : Nat → Pa} {D : Nat → Nat} {r : Nat → Value} {v : Nat → List Vt}
theorem SFr.typ (k : SFr M D r w w') (h : SS w B M m n p D r v) {g : Nat} {t : TypeId} {cs : Array Value} (hb : Bk w g t cs) (h1 : t ≠ 115) (h2 : t ≠ 169) (h3 : t ≠ 36) : Bk w' g t cs := by
  refine (k.block g hb.lt (fun e => ?_) (fun i hi => ⟨fun e => ?_, fun e => ?_⟩)).trans hb
  · subst e; exact h1 (Bk.ty hb h.blk)
  · subst e; exact h2 (Bk.ty hb (h.ts.tb i hi).blk)
  rcases (h.ts.tb i hi).row.blk with h4 | ⟨gb, h4, _, _, cs2, hb2⟩
  · rw [h4] at e; cases e
  rw [h4] at e; cases e; exact h3 (Bk.ty hb hb2)
theorem SFr.pn (k : SFr M D r w w') (h : SS w B M m n p D r v) {p9 : Pt} {B9 : Nat} (hp : PN w B9 p9) : PN w' B9 p9 := by
  refine ⟨⟨hp.1.cap, hp.1.nil, fun h0 => ?_⟩, fun a e => ⟨(hp.2 a e).1, (hp.2 a e).2.elim fun cs hc => ⟨cs, k.typ h hc (by decide) (by decide) (by decide)⟩⟩⟩
  obtain ⟨a, o, e, hB, hc⟩ := hp.1.read h0
  obtain ⟨_, cs, hb⟩ := hp.2 _ e
  have hb' := k.typ h hb (by decide) (by decide) (by decide)
  refine ⟨a, o, e, Nat.lt_of_lt_of_le hB k.size, fun i hi => ?_⟩
  rw [← hc i hi]
  unfold Bk at hb hb'
  simp only [World.cell?, hb', hb]
theorem SFr.tvn (k : SFr M D r w w') (h : SS w B M m n p D r v) {x : Vt} (hx : TVN w x) : TVN w' x := ⟨hx.ok, k.pn h hx.sec, hx.len⟩
theorem SFr.below (k : SFr M D r w w') (h : SS w B M m n p D r v) (hM : w0.heap.size ≤ M) (hB : w0.heap.size ≤ B) (hw : w0.heap.size ≤ w.heap.size) : Below w0.heap.size w w' :=
  ⟨k.os, k.tape, k.output, k.size, fun i hi => k.block i (by omega) (by omega) (fun j hj => by
    have h1 := h.ts.lo j hj
    refine ⟨by omega, fun e => ?_⟩
    have := ((h.ts.tb j hj).row.row.lt i e.symm).1
    omega)⟩
theorem SFr.ex (k : SFr M D r w w') (h : SS w B M m n p D r v) (hM : w0.heap.size ≤ M) (hB : w0.heap.size ≤ B) (hx : Ex w0 w) : Ex w0 w' := Below.trans hx (k.below h hM hB (Below.size hx))
theorem SFr.vblk (k : SFr M D r w w') (h : SS w B M m n p D r v) {g : Nat} {cs : Array Value} (hb : Bk w g 36 cs) (hd : ∀ i, i < 16 → some g ≠ (r i).ownBlock) : Bk w' g 36 cs := by
  refine (k.block g hb.lt (fun e => ?_) (fun i hi => ⟨fun e => ?_, hd i hi⟩)).trans hb
  · subst e; exact absurd (Bk.ty hb h.blk) (by decide)
  subst e; exact absurd (Bk.ty hb (h.ts.tb i hi).blk) (by decide)
theorem SFr.own (k : SFr M D r w w') (h : SS w B M m n p D r v) {B9 : Nat} {y : Value} {sz nn : Nat} {L : List Value} (hr : w.ownsRow B9 36 sz y nn L) (hd : ∀ i, i < 16 → Djn y (r i)) : w'.ownsRow B9 36 sz y nn L :=
  ⟨hr.1, hr.2.imp id fun ⟨g, cap, cur, hv, hB, hg, hrest⟩ => ⟨g, cap, cur, hv, hB, k.vblk h hg (fun i hi e => hd i hi g (by rw [hv]; rfl) e.symm), hrest⟩⟩
theorem SFr.row (k : SFr M D r w w') (h : SS w B M m n p D r v) {B9 : Nat} {y : Value} {xs : List Vt} (hr : VRow w B9 y xs) (hd : ∀ i, i < 16 → Djn y (r i)) : VRow w' B9 y xs := ⟨k.own h hr.row hd, fun i x hx => k.tvn h (hr.ins i x hx)⟩
theorem SFr.rw (k : SFr M D r w w') (h : SS w B M m n p D r v) (hM : w0.heap.size ≤ M) (hB : w0.heap.size ≤ B) (hw : w0.heap.size ≤ w.heap.size) {y : Value} {xs : List Vt} (hr : RW w0 w y xs) (hd : ∀ i, i < 16 → Djn y (r i)) : RW w0 w' y xs :=
  ⟨k.own h hr.row hd, fun i x hx => ⟨(hr.ins i x hx).ok, (by
    rcases (hr.ins i x hx).sec with h1 | h1
    · exact Or.inl (h1.keep (k.below h hM hB hw))
    · exact Or.inr (k.pn h h1)), (hr.ins i x hx).len⟩⟩
theorem SFr.rs (k : SFr M D r w w') (h : SS w B M m n p D r v) (hM : w0.heap.size ≤ M) (hB : w0.heap.size ≤ B) {M2 : Nat} {m2 n2 : Int} {p2 : Nat → Pa} {R : Nat → Value} {xs : Nat → List Vt} (hr : RS w0 w M2 m2 n2 p2 R xs) (hd : ∀ j, j < 16 → ∀ i, i < 16 → Djn (R j) (r i)) : RS w0 w' M2 m2 n2 p2 R xs :=
  ⟨k.typ h hr.blk (by decide) (by decide) (by decide), fun j hj => k.rw h hM hB hr.sz (hr.rw j hj) (hd j hj), hr.ok, hr.mok, hr.lo, Nat.le_trans hr.sz k.size⟩
theorem SFr.ss (k : SFr M D r w w') (h : SS w B M m n p D r v) {B2 M2 : Nat} {m2 n2 : Int} {p2 : Nat → Pa} {D2 : Nat → Nat} {r2 : Nat → Value} {v2 : Nat → List Vt} (h2 : SS w B2 M2 m2 n2 p2 D2 r2 v2) (hne : M ≠ M2) (ha : Apart D r D2 r2) : SS w' B2 M2 m2 n2 p2 D2 r2 v2 := by
  refine ⟨?_, ⟨fun j hj => ⟨?_, ?_, (h2.ts.tb j hj).len, (h2.ts.tb j hj).srt⟩, h2.ts.lo, h2.ts.dd, h2.ts.rr⟩, h2.ok, h2.mok⟩
  · refine (k.block M2 h2.blk.lt (Ne.symm hne) (fun i hi => ⟨fun e => ?_, fun e => ?_⟩)).trans h2.blk
    · have h3 := h2.blk; rw [e] at h3; exact absurd (Bk.ty h3 (h.ts.tb i hi).blk) (by decide)
    rcases (h.ts.tb i hi).row.blk with h4 | ⟨gb, h4, _, _, cs2, hb2⟩
    · rw [h4] at e; cases e
    rw [h4] at e; cases e; exact absurd (Bk.ty h2.blk hb2) (by decide)
  · have hb := (h2.ts.tb j hj).blk
    refine (k.block (D2 j) hb.lt (fun e => ?_) (fun i hi => ⟨fun e => ha.dd i j hi hj e.symm, fun e => ?_⟩)).trans hb
    · rw [e] at hb; exact absurd (Bk.ty hb h.blk) (by decide)
    rcases (h.ts.tb i hi).row.blk with h4 | ⟨gb, h4, _, _, cs2, hb2⟩
    · rw [h4] at e; cases e
    rw [h4] at e; cases e; exact absurd (Bk.ty hb hb2) (by decide)
  exact k.row h (h2.ts.tb j hj).row (fun i hi => (ha.rr i j hi hj).symm)
theorem Lies.djn9 {y u u' : Value} (hl : Lies w u u') (hd : Djn y u) (hy : ∀ g, y.ownBlock = some g → g < w.heap.size) : Djn y u' := fun g h1 h2 => by
  rcases hl with e | e
  · rw [e] at h2; exact hd g h1 h2
  · have := e g h2; have := hy g h1; omega
end
def ctF (v : Nat → List Vt) : Nat → List Vc := fun i => (v i).map Vt.ct
theorem ctF_upd (v : Nat → List Vt) (s : Nat) (ls : List Vt) : ctF (updF v s ls) = updF (ctF v) s (ls.map Vt.ct) := by
  funext i; unfold ctF updF; split <;> rfl
def hasC (C : List Vc) (id : List UInt8) : Bool := C.any fun c => decide (c.id = id)
def plcC (c : Vc) (C : List Vc) : List Vc := (C.filter fun z => decide (idn z.id < idn c.id)) ++ [c] ++ (C.filter fun z => decide (idn c.id < idn z.id))
theorem plc_ct (x : Vt) (xs : List Vt) : (plc x xs).map Vt.ct = plcC x.ct (xs.map Vt.ct) := by
  unfold plc plcC lts gts
  rw [List.map_append, List.map_append, List.filter_map, List.filter_map]
  rfl
theorem has_iff (xs : List Vt) (id : List UInt8) : hasC (xs.map Vt.ct) id = true ↔ Has xs id := by
  unfold hasC Has
  rw [List.any_map, List.any_eq_true]
  exact ⟨fun ⟨y, hy, h⟩ => ⟨y, hy, of_decide_eq_true h⟩, fun ⟨y, hy, h⟩ => ⟨y, hy, decide_eq_true h⟩⟩
theorem det_has {w : World} {T : Nat} {rv : Value} {vs : List Vt} (ht : TB w T rv vs) {id : List UInt8} (hid : id.length = 4) {c : Vc} {b : Bool} (h : GetDet vs (idn id) c b) : b = hasC (vs.map Vt.ct) id := by
  rw [h.1]
  apply Bool.eq_iff_iff.2
  rw [decide_eq_true_eq, has_iff]
  constructor
  · rintro ⟨q, hq, e⟩
    have hy : vs[q]? = some vs[q] := List.getElem?_eq_getElem hq
    rw [idF_at vs q _ hy] at e
    exact ⟨vs[q], List.getElem_mem hq, idn_inj (ht.row.ins q _ hy).ok.idN hid e⟩
  rintro ⟨y, hy, e⟩
  obtain ⟨q, hq, e2⟩ := List.getElem_of_mem hy
  exact ⟨q, hq, by rw [idF_at vs q y (by rw [List.getElem?_eq_getElem hq, e2]), e]⟩
theorem putrel_plc {w : World} {T : Nat} {rv : Value} {vs ls : List Vt} (ht : TB w T rv vs) {x : Vt} (hr : x.ct.right = true) (hp : PutRel vs x ls) (hroom : ¬ (NotIn vs (idn x.id) ∧ 4 ≤ vs.length)) : ls.map Vt.ct = (plc x vs).map Vt.ct := by
  rcases hp with ⟨h, _⟩ | ⟨_, p, z, hb, hz, ⟨h1, h2, rfl⟩ | ⟨h1, h2, _⟩ | ⟨h1, h2, rfl⟩⟩
  · rw [hr] at h; cases h
  · unfold plc
    rw [lts_take hb, gts_drop hb (Nat.le_succ p) (fun i hi => by
      rcases Nat.eq_or_lt_of_le (Nat.le_of_lt_succ hi) with h | h
      · rw [h, h2]; exact Nat.le_refl _
      · exact Nat.le_of_lt (hb.2.1 i h)) (fun i h3 h4 => by rw [← h2]; exact ht.srt p i h3 h4)]
    rw [List.set_eq_take_append_cons_drop, if_pos h1]
    simp only [List.map_append, List.map_cons, List.map_nil, hz, List.append_assoc, List.cons_append, List.nil_append]
  · exact absurd ⟨h1, by omega⟩ hroom
  unfold plc
  rw [lts_take hb, gts_drop hb (Nat.le_refl p) (fun i hi => Nat.le_of_lt (hb.2.1 i hi)) (fun i h3 h4 => by
    rcases Nat.eq_or_lt_of_le (hb.2.2 i h3 h4) with h | h
    · exact absurd ⟨i, h4, h.symm⟩ h1
    · exact h)]
  simp only [List.map_append, List.map_cons, List.map_nil, hz, List.append_assoc, List.cons_append, List.nil_append]
def Rk.home (x : Rk) : Nat := (Sm.shV x.v.id).toNat
structure ChkC (m n : Int) (p : Nat → Pa) (C : Nat → List Vc) (x : Rk) (E : Int) : Prop where
  k1 : x.kind = 1 → (x.keepR → E = ckE (p x.home) (hasC (C x.home) x.v.id) (C x.home).length) ∧ (¬ x.keepR → E = 1)
  k2 : x.kind = 2 → (x.outR → E = outE m n (p x.shard.toNat) x.tw x.ep) ∧ (¬ x.outR → E = 1)
  k3 : x.kind = 3 → (x.inR → (AllOf x.l (x.shard.toNat : Int) → E = inE (p x.shard.toNat) x.ep) ∧ (¬ AllOf x.l (x.shard.toNat : Int) → E = 1)) ∧ (¬ x.inR → E = 1)
  k4 : x.kind = 4 → (x.doneR → E = if (p x.shard.toNat).role = 2 ∧ (p x.shard.toNat).ep = x.ep then 0 else 26) ∧ (¬ x.doneR → E = 1)
  k0 : ¬ (x.kind = 1 ∨ x.kind = 2 ∨ x.kind = 3 ∨ x.kind = 4) → E = 1
theorem home_lt (x : Rk) : x.home < 16 ∧ Sm.shV x.v.id = (x.home : Int) := by
  obtain ⟨s, h1, h2⟩ := shv_range x.v.id
  unfold Rk.home
  rw [h1]; exact ⟨by simpa using h2, by simp⟩
theorem ChkC.uniq {m n : Int} {p : Nat → Pa} {C C2 : Nat → List Vc} {x : Rk} {E E2 : Int} (h : ChkC m n p C x E) (h2 : ChkC m n p C2 x E2) (hC : ∀ i, i < 16 → C i = C2 i) : E = E2 := by
  by_cases k1 : x.kind = 1
  · by_cases hr : x.keepR
    · rw [(h.k1 k1).1 hr, (h2.k1 k1).1 hr, hC _ (home_lt x).1]
    rw [(h.k1 k1).2 hr, (h2.k1 k1).2 hr]
  by_cases k2 : x.kind = 2
  · by_cases hr : x.outR
    · rw [(h.k2 k2).1 hr, (h2.k2 k2).1 hr]
    rw [(h.k2 k2).2 hr, (h2.k2 k2).2 hr]
  by_cases k3 : x.kind = 3
  · by_cases hr : x.inR
    · by_cases ha : AllOf x.l (x.shard.toNat : Int)
      · rw [((h.k3 k3).1 hr).1 ha, ((h2.k3 k3).1 hr).1 ha]
      rw [((h.k3 k3).1 hr).2 ha, ((h2.k3 k3).1 hr).2 ha]
    rw [(h.k3 k3).2 hr, (h2.k3 k3).2 hr]
  by_cases k4 : x.kind = 4
  · by_cases hr : x.doneR
    · rw [(h.k4 k4).1 hr, (h2.k4 k4).1 hr]
    rw [(h.k4 k4).2 hr, (h2.k4 k4).2 hr]
  rw [h.k0 (by rintro (h | h | h | h) <;> contradiction), h2.k0 (by rintro (h | h | h | h) <;> contradiction)]
structure StepC (m n : Int) (p : Nat → Pa) (C : Nat → List Vc) (x : Rk) (E : Int) (p' : Nat → Pa) (C' : Nat → List Vc) : Prop where
  chk : ChkC m n p C x E
  ne : E ≠ 0 → p' = p ∧ C' = C
  z1 : E = 0 → x.kind = 1 → x.keepR ∧ p' = p ∧ C' = updF C x.home (plcC x.v.ct (C x.home))
  z2 : E = 0 → x.kind = 2 → x.outR ∧ p' = updF p x.shard.toNat ⟨2, x.ep, x.tw⟩ ∧ C' = C
  z3 : E = 0 → x.kind = 3 → x.inR ∧ AllOf x.l (x.shard.toNat : Int) ∧ p' = updF p x.shard.toNat ⟨1, x.ep, 0⟩ ∧ C' = updF C x.shard.toNat (x.l.map Vt.ct)
  z4 : E = 0 → x.kind = 4 → x.doneR ∧ p' = updF p x.shard.toNat ⟨0, x.ep, 0⟩ ∧ C' = updF C x.shard.toNat []
theorem StepC.kinds {m n : Int} {p p' : Nat → Pa} {C C' : Nat → List Vc} {x : Rk} (h : StepC m n p C x 0 p' C') : x.kind = 1 ∨ x.kind = 2 ∨ x.kind = 3 ∨ x.kind = 4 :=
  Classical.byContradiction fun hn => absurd (h.chk.k0 hn) (by decide)
theorem StepC.uniq {m n : Int} {p p1 p2 : Nat → Pa} {C C2 C1 C3 : Nat → List Vc} {x : Rk} {E E2 : Int} (h : StepC m n p C x E p1 C1) (h2 : StepC m n p C2 x E2 p2 C3) (hC : ∀ i, i < 16 → C i = C2 i) : E = E2 ∧ p1 = p2 ∧ ∀ i, i < 16 → C1 i = C3 i := by
  have hE := h.chk.uniq h2.chk hC
  subst hE
  refine ⟨rfl, ?_⟩
  by_cases h0 : E = 0
  rotate_left
  · obtain ⟨e1, e2⟩ := h.ne h0
    obtain ⟨e3, e4⟩ := h2.ne h0
    exact ⟨e1.trans e3.symm, fun i hi => by rw [e2, e4]; exact hC i hi⟩
  subst h0
  rcases h.kinds with k | k | k | k
  · obtain ⟨_, e1, e2⟩ := h.z1 rfl k
    obtain ⟨_, e3, e4⟩ := h2.z1 rfl k
    refine ⟨e1.trans e3.symm, fun i hi => ?_⟩
    rw [e2, e4, hC _ (home_lt x).1]
    unfold updF; split
    · rfl
    exact hC i hi
  · obtain ⟨_, e1, e2⟩ := h.z2 rfl k
    obtain ⟨_, e3, e4⟩ := h2.z2 rfl k
    exact ⟨e1.trans e3.symm, fun i hi => by rw [e2, e4]; exact hC i hi⟩
  · obtain ⟨_, _, e1, e2⟩ := h.z3 rfl k
    obtain ⟨_, _, e3, e4⟩ := h2.z3 rfl k
    refine ⟨e1.trans e3.symm, fun i hi => ?_⟩
    rw [e2, e4]
    unfold updF; split
    · rfl
    exact hC i hi
  obtain ⟨_, e1, e2⟩ := h.z4 rfl k
  obtain ⟨_, e3, e4⟩ := h2.z4 rfl k
  refine ⟨e1.trans e3.symm, fun i hi => ?_⟩
  rw [e2, e4]
  unfold updF; split
  · rfl
  exact hC i hi
def WfC (p : Nat → Pa) (C : Nat → List Vc) : Prop := ∀ i, i < 16 → (∀ c ∈ C i, c.right = true) ∧ ((p i).role = 0 → C i = []) ∧ (p i).Ok
theorem StepC.wf {m n : Int} {p p' : Nat → Pa} {C C' : Nat → List Vc} {x : Rk} {E : Int} (h : StepC m n p C x E p' C') (hw : WfC p C) (hep : 0 ≤ x.ep ∧ x.ep < 18446744073709551616) (htw : i64 x.tw) : WfC p' C' := by
  by_cases h0 : E = 0
  rotate_left
  · obtain ⟨e1, e2⟩ := h.ne h0
    rw [e1, e2]; exact hw
  subst h0
  rcases h.kinds with k | k | k | k
  · obtain ⟨hr, e1, e2⟩ := h.z1 rfl k
    have hck := (h.chk.k1 k).1 hr
    rw [e1, e2]
    intro i hi
    by_cases e : i = x.home
    · rw [e, updF_same]
      refine ⟨fun c hc => ?_, fun h0 => ?_, (hw _ (home_lt x).1).2.2⟩
      · unfold plcC at hc
        rcases List.mem_append.1 hc with h1 | h1
        · rcases List.mem_append.1 h1 with h1 | h1
          · exact (hw _ (home_lt x).1).1 c (List.mem_filter.1 h1).1
          rw [List.mem_singleton.1 h1]; exact hr.1
        exact (hw _ (home_lt x).1).1 c (List.mem_filter.1 h1).1
      exfalso; unfold ckE at hck; rw [if_pos h0] at hck; exact absurd hck (by decide)
    rw [updF_ne _ _ e]; exact hw i hi
  · obtain ⟨hr, e1, e2⟩ := h.z2 rfl k
    rw [e1, e2]
    intro i hi
    by_cases e : i = x.shard.toNat
    · rw [e, updF_same]
      exact ⟨(hw _ (e ▸ hi)).1, (fun h => absurd h (by decide : ¬ (2 : Int) = 0)), ⟨by unfold i64; simp only; omega, hep, htw⟩⟩
    rw [updF_ne _ _ e]; exact hw i hi
  · obtain ⟨hr, _, e1, e2⟩ := h.z3 rfl k
    rw [e1, e2]
    intro i hi
    by_cases e : i = x.shard.toNat
    · rw [e, updF_same, updF_same]
      refine ⟨fun c hc => ?_, (fun h => absurd h (by decide : ¬ (1 : Int) = 0)), ⟨by unfold i64; simp only; omega, hep, by unfold i64; simp only; omega⟩⟩
      obtain ⟨y, hy, rfl⟩ := List.mem_map.1 hc
      obtain ⟨q, hq, e9⟩ := List.getElem_of_mem hy
      exact hr.2.2.2.1 q y (by rw [List.getElem?_eq_getElem hq, e9])
    rw [updF_ne _ _ e, updF_ne _ _ e]; exact hw i hi
  obtain ⟨hr, e1, e2⟩ := h.z4 rfl k
  rw [e1, e2]
  intro i hi
  by_cases e : i = x.shard.toNat
  · rw [e, updF_same, updF_same]
    exact ⟨fun c hc => by simp at hc, fun _ => rfl, ⟨by unfold i64; simp only; omega, hep, by unfold i64; simp only; omega⟩⟩
  rw [updF_ne _ _ e, updF_ne _ _ e]; exact hw i hi
theorem StepC.ep {m n : Int} {p p' : Nat → Pa} {C C' : Nat → List Vc} {x : Rk} {E : Int} (h : StepC m n p C x E p' C') (hw : WfC p C) : ∀ i, i < 16 → (p i).ep ≤ (p' i).ep := by
  intro i hi
  by_cases h0 : E = 0
  rotate_left
  · rw [(h.ne h0).1]; exact Int.le_refl _
  subst h0
  rcases h.kinds with k | k | k | k
  · obtain ⟨_, e1, _⟩ := h.z1 rfl k
    rw [e1]; exact Int.le_refl _
  · obtain ⟨hr, e1, _⟩ := h.z2 rfl k
    have hck := (h.chk.k2 k).1 hr
    rw [e1]
    by_cases e : i = x.shard.toNat
    · rw [e, updF_same]
      show (p x.shard.toNat).ep ≤ x.ep
      have hok := (hw _ (e ▸ hi)).2.2.ep
      unfold outE at hck
      split at hck
      · exact absurd hck (by decide)
      split at hck
      · rename_i h1 h2; exact absurd hck.symm h2
      split at hck
      · rename_i h1 h2 h3
        rw [show IntKind.u64.wrap ((p x.shard.toNat).ep + 1) = ((p x.shard.toNat).ep + 1) % 18446744073709551616 from by simp [IntKind.wrap, IntKind.bits, IntKind.signed]] at h3
        have := hr.1.2.2.1
        omega
      exact absurd hck (by decide)
    rw [updF_ne _ _ e]; exact Int.le_refl _
  · obtain ⟨hr, ha, e1, _⟩ := h.z3 rfl k
    have hck := ((h.chk.k3 k).1 hr).1 ha
    rw [e1]
    by_cases e : i = x.shard.toNat
    · rw [e, updF_same]
      show (p x.shard.toNat).ep ≤ x.ep
      unfold inE at hck
      split at hck
      · exact absurd hck (by decide)
      split at hck
      · exact absurd hck (by decide)
      omega
    rw [updF_ne _ _ e]; exact Int.le_refl _
  obtain ⟨hr, e1, _⟩ := h.z4 rfl k
  have hck := (h.chk.k4 k).1 hr
  rw [e1]
  by_cases e : i = x.shard.toNat
  · rw [e, updF_same]
    show (p x.shard.toNat).ep ≤ x.ep
    split at hck
    · rename_i h1; rw [h1.2]; exact Int.le_refl _
    exact absurd hck (by decide)
  rw [updF_ne _ _ e]; exact Int.le_refl _
structure RkX (w0 w : World) (x : Rk) : Prop where
  inn : x.In w
  px : x.v.ct.right = true → PX w0 w x.v
  pxs : x.inR → ∀ y ∈ x.l, PX w0 w y
  md : ∀ (M : Nat), w0.heap.size ≤ M → (∃ cs, Bk w M 115 cs) → ∀ wa wb, Ex w wa → Md M wa wb → Vp.In x.ad x.cap x.l wb ∧ ∀ (i : Nat) (y : Vt), x.l[i]? = some y → VI wb y
theorem right_len {x : Vt} (h : x.ct.right = true) : x.sec.l.length ≤ 64 := by
  unfold Vc.right at h
  rw [Bool.and_eq_true] at h
  obtain ⟨_, h⟩ := h
  split at h
  · have e := of_decide_eq_true h
    have : x.ct.sec = [] := by rw [e]; rfl
    rw [show x.sec.l = x.ct.sec from rfl, this]; decide
  simp only [Bool.and_eq_true, decide_eq_true_eq] at h
  exact h.2
theorem RkX.raw {w0 w : World} {x : Rk} (h : x.In w0) (k : Ex w0 w) : RkX w0 w x :=
  ⟨h.ext k, fun hr => ⟨h.v.ok, Or.inl (h.v.sec.keep k), right_len hr⟩, fun hr y hy => by
    obtain ⟨q, hq, e9⟩ := List.getElem_of_mem hy
    have hv := h.ins q y (by rw [List.getElem?_eq_getElem hq, e9])
    exact ⟨hv.ok, Or.inl (hv.sec.keep k), right_len (hr.2.2.2.1 q y (by rw [List.getElem?_eq_getElem hq, e9]))⟩, fun M hM _ wa wb ka km => by
    have kb : Ex w0 wb := km.ex (Ex.trans k ka) hM
    exact ⟨h.inn.ext kb, fun i y hy => (h.ins i y hy).ext kb⟩⟩
theorem RkX.made {w0 w : World} {B : Nat} {x : Rk} (h : RkM w B x) : RkX w0 w x :=
  ⟨h.inn, fun hr => ⟨h.v.ok, Or.inr (h.v.sec.less (Nat.zero_le _)), h.v.len⟩, fun _ y hy => by
    have hv := h.row.mem hy
    exact ⟨hv.ok, Or.inr (hv.sec.less (Nat.zero_le _)), hv.len⟩, fun M hM hb wa wb ka km => by
    obtain ⟨cs, hb⟩ := hb
    have kt : Kt [115] 0 wa wb := Kt.md km (Nat.zero_le _) (hb.ext ka) (List.mem_singleton.2 rfl)
    have hr := h.row.ext ka
    have hr' : VRow wb B (.slice x.ad x.l.length x.cap) x.l := ⟨kt.row hr.row (by decide), fun i z hz => (hr.ins i z hz).kt kt (by decide)⟩
    obtain ⟨ad, cap, e, hin⟩ := hr'.inn
    cases e
    exact ⟨hin, fun i y hy => (hr'.ins i y hy).vi⟩⟩
def SAP (B M : Nat) (m n : Int) (p : Nat → Pa) (D : Nat → Nat) (r : Nat → Value) (v : Nat → List Vt) (x : Rk) (w : World) (e : Ending) (w' : World) : Prop :=
  ∃ (E : Int) (p' : Nat → Pa) (r' : Nat → Value) (v' : Nat → List Vt), e = .returned (.int .i64 E) ∧ StepC m n p (ctF v) x E p' (ctF v') ∧ SS w' B M m n p' D r' v' ∧ SFr M D r w w' ∧ ∀ i, i < 16 → Lies w (r i) (r' i)
theorem lies_upd {w : World} {r : Nat → Value} {s : Nat} {r' : Value} (h : Lies w (r s) r') : ∀ i, i < 16 → Lies w (r i) (updF r s r' i) := fun i _ => by
  by_cases e : i = s
  · rw [e, updF_same]; exact h
  · rw [updF_ne _ _ e]; exact Or.inl rfl
section
variable {B M : Nat} {m n : Int} {p : Nat → Pa} {D : Nat → Nat} {r : Nat → Value} {v : Nat → List Vt} {x : Rk} {w w' : World} {e : Ending}
theorem sap_no {E : Int} (hc : ChkC m n p (ctF v) x E) (h0 : E ≠ 0) (h : SS w B M m n p D r v) (hx : Ex w w') : SAP B M m n p D r v x w (.returned (.int .i64 E)) w' :=
  ⟨E, p, r, v, rfl, ⟨hc, fun _ => ⟨rfl, rfl⟩, fun h => absurd h h0, fun h => absurd h h0, fun h => absurd h h0, fun h => absurd h h0⟩, h.ext hx, hx.sfr M D r, fun i _ => Or.inl rfl⟩
end
theorem chk1 {m n : Int} {p : Nat → Pa} {C : Nat → List Vc} {x : Rk} {E : Int} (k : x.kind = 1) (h : (x.keepR → E = ckE (p x.home) (hasC (C x.home) x.v.id) (C x.home).length) ∧ (¬ x.keepR → E = 1)) : ChkC m n p C x E := ⟨fun _ => h, fun h => by omega, fun h => by omega, fun h => by omega, fun h => absurd (Or.inl k) h⟩
theorem chk2 {m n : Int} {p : Nat → Pa} {C : Nat → List Vc} {x : Rk} {E : Int} (k : x.kind = 2) (h : (x.outR → E = outE m n (p x.shard.toNat) x.tw x.ep) ∧ (¬ x.outR → E = 1)) : ChkC m n p C x E := ⟨fun h => by omega, fun _ => h, fun h => by omega, fun h => by omega, fun h => absurd (Or.inr (Or.inl k)) h⟩
theorem chk3 {m n : Int} {p : Nat → Pa} {C : Nat → List Vc} {x : Rk} {E : Int} (k : x.kind = 3) (h : (x.inR → (AllOf x.l (x.shard.toNat : Int) → E = inE (p x.shard.toNat) x.ep) ∧ (¬ AllOf x.l (x.shard.toNat : Int) → E = 1)) ∧ (¬ x.inR → E = 1)) : ChkC m n p C x E := ⟨fun h => by omega, fun h => by omega, fun _ => h, fun h => by omega, fun h => absurd (Or.inr (Or.inr (Or.inl k))) h⟩
theorem chk4 {m n : Int} {p : Nat → Pa} {C : Nat → List Vc} {x : Rk} {E : Int} (k : x.kind = 4) (h : (x.doneR → E = if (p x.shard.toNat).role = 2 ∧ (p x.shard.toNat).ep = x.ep then 0 else 26) ∧ (¬ x.doneR → E = 1)) : ChkC m n p C x E := ⟨fun h => by omega, fun h => by omega, fun h => by omega, fun _ => h, fun h => absurd (Or.inr (Or.inr (Or.inr k))) h⟩
theorem chk0 {m n : Int} {p : Nat → Pa} {C : Nat → List Vc} {x : Rk} {E : Int} (k : ¬ (x.kind = 1 ∨ x.kind = 2 ∨ x.kind = 3 ∨ x.kind = 4)) (h : E = 1) : ChkC m n p C x E := ⟨fun h => absurd (Or.inl h) k, fun h => absurd (Or.inr (Or.inl h)) k, fun h => absurd (Or.inr (Or.inr (Or.inl h))) k, fun h => absurd (Or.inr (Or.inr (Or.inr h))) k, fun _ => h⟩
theorem ex_in (x : Rk) (q : Pa) (s : Int) : ∃ E1 : Int, (AllOf x.l s → E1 = inE q x.ep) ∧ (¬ AllOf x.l s → E1 = 1) := by
  by_cases h : AllOf x.l s
  · exact ⟨_, fun _ => rfl, fun h2 => absurd h h2⟩
  exact ⟨1, fun h2 => absurd h2 h, fun _ => rfl⟩
theorem step2 {m n : Int} {p : Nat → Pa} {C : Nat → List Vc} {x : Rk} (k : x.kind = 2) (hr : x.outR) (hE : outE m n (p x.shard.toNat) x.tw x.ep = 0) : StepC m n p C x 0 (updF p x.shard.toNat ⟨2, x.ep, x.tw⟩) C :=
  ⟨chk2 k ⟨fun _ => hE.symm, fun h => absurd hr h⟩, fun h => absurd rfl h, fun _ h => by omega, fun _ _ => ⟨hr, rfl, rfl⟩, fun _ h => by omega, fun _ h => by omega⟩
theorem step3 {m n : Int} {p : Nat → Pa} {C : Nat → List Vc} {x : Rk} {E1 : Int} (k : x.kind = 3) (hr : x.inR) (h1 : AllOf x.l (x.shard.toNat : Int) → E1 = inE (p x.shard.toNat) x.ep) (h2 : ¬ AllOf x.l (x.shard.toNat : Int) → E1 = 1) (hE : E1 = 0) : StepC m n p C x 0 (updF p x.shard.toNat ⟨1, x.ep, 0⟩) (updF C x.shard.toNat (x.l.map Vt.ct)) := by
  have ha : AllOf x.l (x.shard.toNat : Int) := Classical.byContradiction fun h => by have := h2 h; omega
  exact ⟨chk3 k ⟨fun _ => ⟨fun _ => hE.symm.trans (h1 ha), fun h => absurd ha h⟩, fun h => absurd hr h⟩, fun h => absurd rfl h, fun _ h => by omega, fun _ h => by omega, fun _ _ => ⟨hr, ha, rfl, rfl⟩, fun _ h => by omega⟩
theorem step4 {m n : Int} {p : Nat → Pa} {C : Nat → List Vc} {x : Rk} (k : x.kind = 4) (hr : x.doneR) (hE : (if (p x.shard.toNat).role = 2 ∧ (p x.shard.toNat).ep = x.ep then (0 : Int) else 26) = 0) : StepC m n p C x 0 (updF p x.shard.toNat ⟨0, x.ep, 0⟩) (updF C x.shard.toNat []) :=
  ⟨chk4 k ⟨fun _ => hE.symm, fun h => absurd hr h⟩, fun h => absurd rfl h, fun _ h => by omega, fun _ h => by omega, fun _ h => by omega, fun _ _ => ⟨hr, rfl, rfl⟩⟩
theorem step1 {m n : Int} {p : Nat → Pa} {C : Nat → List Vc} {x : Rk} (k : x.kind = 1) (hr : x.keepR) (hE : ckE (p x.home) (hasC (C x.home) x.v.id) (C x.home).length = 0) : StepC m n p C x 0 p (updF C x.home (plcC x.v.ct (C x.home))) :=
  ⟨chk1 k ⟨fun _ => hE.symm, fun h => absurd hr h⟩, fun h => absurd rfl h, fun _ _ => ⟨hr, rfl, rfl⟩, fun _ h => by omega, fun _ h => by omega, fun _ h => by omega⟩
theorem ckE_room {q : Pa} {b : Bool} {nn : Nat} (h : ckE q b nn = 0) : ¬ (b = false ∧ 4 ≤ nn) := fun hn => by
  unfold ckE at h
  by_cases h0 : q.role = 0
  · rw [if_pos h0] at h; exact absurd h (by decide)
  · rw [if_neg h0] at h
    by_cases h2 : q.role = 2
    · rw [if_pos h2] at h; exact absurd h (by decide)
    · rw [if_neg h2, if_pos hn] at h; exact absurd h (by decide)
theorem sapply_all (B M : Nat) (m n : Int) (p : Nat → Pa) (D : Nat → Nat) (r : Nat → Value) (v : Nat → List Vt) (x : Rk) (w : World) (hx : x.In w) (hmd : ∀ wa wb, Ex w wa → Md M wa wb → Vp.In x.ad x.cap x.l wb ∧ ∀ (i : Nat) (y : Vt), x.l[i]? = some y → VI wb y) (h : SS w B M m n p D r v) : Calls Try.prog 17 #[.pointer (some ⟨M, 0, none⟩), x.V] w (SAP B M m n p D r v x w) := by
  by_cases k1 : x.kind = 1
  · obtain ⟨hs16, hs⟩ := home_lt x
    obtain ⟨c, b, hdet⟩ := get_det (v x.home) (idn x.v.id)
    have hb : b = hasC (ctF v x.home) x.v.id := det_has (h.ts.tb _ hs16) hx.v.ok.idN hdet
    have hlen : (ctF v x.home).length = (v x.home).length := List.length_map _
    refine (apply_keep B M m n p D r v x k1 x.home hs hs16 c b hdet w hx h).mono ?_
    rintro e w' (⟨h1, ⟨E, rfl, e0, e1, e2⟩, hex⟩ | ⟨hk, hE, rfl, r', ls, hp, hss, htc, hl⟩)
    · exact sap_no (chk1 k1 ⟨fun hr => by rw [e1 hr, ← hb, hlen], e2⟩) e0 h hex
    have hroom := ckE_room hE
    refine ⟨0, p, _, _, rfl, ?_, hss, htc.sfr hs16, lies_upd hl⟩
    have e9 : ctF (updF v x.home ls) = updF (ctF v) x.home (plcC x.v.ct (ctF v x.home)) := by
      rw [ctF_upd, putrel_plc (h.ts.tb _ hs16) hk.1 hp (fun hn => hroom ⟨(getdet_in hdet).2 hn.1, hn.2⟩), plc_ct]; rfl
    rw [e9]
    exact step1 k1 hk (by rw [← hb, hlen]; exact hE)
  by_cases k2 : x.kind = 2
  · refine (apply_out B M m n p D r v x k2 _ rfl w hx h).mono ?_
    rintro e w' (⟨h1, ⟨E, rfl, e0, e1, e2⟩, hex⟩ | ⟨hr, hE, rfl, hss, hmd2⟩)
    · exact sap_no (chk2 k2 ⟨e1, e2⟩) e0 h hex
    exact ⟨0, _, r, v, rfl, step2 k2 hr hE, hss, hmd2.sfr, fun i _ => Or.inl rfl⟩
  by_cases k3 : x.kind = 3
  · obtain ⟨E1, hE1, hE2⟩ := ex_in x (p x.shard.toNat) (x.shard.toNat : Int)
    refine (apply_in B M m n p D r v x k3 E1 hE1 hE2 w hx hmd h).mono ?_
    rintro e w' (⟨h1, ⟨E, rfl, e0, e1, e2⟩, hex⟩ | ⟨hr, hE, rfl, rv', ys, hc, hss, hmd2, hf⟩)
    · exact sap_no (chk3 k3 ⟨fun hr => ⟨fun ha => (e1 hr).trans (hE1 ha), fun ha => (e1 hr).trans (hE2 ha)⟩, e2⟩) e0 h hex
    have hs16 : x.shard.toNat < 16 := by have := hr.1.1; have := hr.1.2.1; omega
    refine ⟨0, _, _, _, rfl, ?_, hss, hmd2.sfr hs16, lies_upd (Or.inr hf)⟩
    rw [ctF_upd, hc]
    exact step3 k3 hr hE1 hE2 hE
  by_cases k4 : x.kind = 4
  · refine (apply_done B M m n p D r v x k4 _ rfl w hx h).mono ?_
    rintro e w' (⟨h1, ⟨E, rfl, e0, e1, e2⟩, hex⟩ | ⟨hr, hE, rfl, rv', ys, hc, hss, hmd2, hf⟩)
    · exact sap_no (chk4 k4 ⟨e1, e2⟩) e0 h hex
    have hs16 : x.shard.toNat < 16 := by have := hr.1.1; have := hr.1.2.1; omega
    have hep : (p x.shard.toNat).ep = x.ep := by
      split at hE
      · rename_i h9; exact h9.2
      · exact absurd hE (by decide)
    rw [hep] at hss
    refine ⟨0, _, _, _, rfl, ?_, hss, hmd2.sfr hs16, lies_upd (Or.inr hf)⟩
    rw [ctF_upd, hc]
    exact step4 k4 hr hE
  have k0 : ¬ (x.kind = 1 ∨ x.kind = 2 ∨ x.kind = 3 ∨ x.kind = 4) := by rintro (h | h | h | h) <;> contradiction
  refine (apply_none M x k0 w hx).mono ?_
  rintro e w' ⟨rfl, hex⟩
  exact sap_no (chk0 k0 rfl) (by decide) h hex
def ChkPost (m n : Int) (p : Nat → Pa) (C : Nat → List Vc) (x : Rk) (w : World) (e : Ending) (w' : World) : Prop := ∃ E : Int, e = .returned (.int .i64 E) ∧ ChkC m n p C x E ∧ Ex w w'
theorem scheck_all (B M : Nat) (m n : Int) (p : Nat → Pa) (D : Nat → Nat) (r : Nat → Value) (v : Nat → List Vt) (x : Rk) (w : World) (hx : x.In w) (h : SS w B M m n p D r v) : Calls Try.prog 54 #[.pointer (some ⟨M, 0, none⟩), x.V] w (ChkPost m n p (ctF v) x w) := by
  by_cases k1 : x.kind = 1
  · obtain ⟨hs16, hs⟩ := home_lt x
    obtain ⟨c, b, hdet⟩ := get_det (v x.home) (idn x.v.id)
    have hb : b = hasC (ctF v x.home) x.v.id := det_has (h.ts.tb _ hs16) hx.v.ok.idN hdet
    have hlen : (ctF v x.home).length = (v x.home).length := List.length_map _
    refine (check_keep B M m n p D r v x k1 x.home hs hs16 c b hdet w hx h).mono ?_
    rintro e w' ⟨E, rfl, e1, e2, hex⟩
    exact ⟨E, rfl, chk1 k1 ⟨fun hr => by rw [e1 hr, ← hb, hlen], e2⟩, hex⟩
  by_cases k2 : x.kind = 2
  · refine (check_out B M m n p D r v x k2 _ rfl w hx h).mono ?_
    rintro e w' ⟨E, rfl, e1, e2, hex⟩
    exact ⟨E, rfl, chk2 k2 ⟨e1, e2⟩, hex⟩
  by_cases k3 : x.kind = 3
  · obtain ⟨E1, hE1, hE2⟩ := ex_in x (p x.shard.toNat) (x.shard.toNat : Int)
    refine (check_in B M m n p D r v x k3 E1 hE1 hE2 w hx h).mono ?_
    rintro e w' ⟨E, rfl, e1, e2, hex⟩
    exact ⟨E, rfl, chk3 k3 ⟨fun hr => ⟨fun ha => (e1 hr).trans (hE1 ha), fun ha => (e1 hr).trans (hE2 ha)⟩, e2⟩, hex⟩
  by_cases k4 : x.kind = 4
  · refine (check_done B M m n p D r v x k4 _ rfl w hx h).mono ?_
    rintro e w' ⟨E, rfl, e1, e2, hex⟩
    exact ⟨E, rfl, chk4 k4 ⟨e1, e2⟩, hex⟩
  have k0 : ¬ (x.kind = 1 ∨ x.kind = 2 ∨ x.kind = 3 ∨ x.kind = 4) := by rintro (h | h | h | h) <;> contradiction
  refine (check_none M x k0 w hx).mono ?_
  rintro e w' ⟨rfl, hex⟩
  exact ⟨1, rfl, chk0 k0 rfl, hex⟩
theorem rcheck_all (w0 : World) (M : Nat) (m n : Int) (p : Nat → Pa) (R : Nat → Value) (xs : Nat → List Vt) (x : Rk) (w : World) (hx : x.In w) (h : RS w0 w M m n p R xs) : Calls Try.prog 53 #[.pointer (some ⟨M, 0, none⟩), x.V] w (ChkPost m n p (ctF xs) x w) := by
  by_cases k1 : x.kind = 1
  · obtain ⟨hs16, hs⟩ := home_lt x
    have hlen : (ctF xs x.home).length = (xs x.home).length := List.length_map _
    refine (rcheck_keep w0 M m n p R xs x k1 x.home hs hs16 _ (has_iff (xs x.home) x.v.id) _ rfl w hx h).mono ?_
    rintro e w' ⟨E, rfl, e1, e2, hex⟩
    exact ⟨E, rfl, chk1 k1 ⟨fun hr => by rw [e1 hr, hlen]; rfl, e2⟩, hex⟩
  by_cases k2 : x.kind = 2
  · refine (rcheck_out w0 M m n p R xs x k2 _ rfl w hx h).mono ?_
    rintro e w' ⟨E, rfl, e1, e2, hex⟩
    exact ⟨E, rfl, chk2 k2 ⟨e1, e2⟩, hex⟩
  by_cases k3 : x.kind = 3
  · obtain ⟨E1, hE1, hE2⟩ := ex_in x (p x.shard.toNat) (x.shard.toNat : Int)
    refine (rcheck_in w0 M m n p R xs x k3 E1 hE1 hE2 w hx h).mono ?_
    rintro e w' ⟨E, rfl, e1, e2, hex⟩
    exact ⟨E, rfl, chk3 k3 ⟨fun hr => ⟨fun ha => (e1 hr).trans (hE1 ha), fun ha => (e1 hr).trans (hE2 ha)⟩, e2⟩, hex⟩
  by_cases k4 : x.kind = 4
  · refine (rcheck_done w0 M m n p R xs x k4 _ rfl w hx h).mono ?_
    rintro e w' ⟨E, rfl, e1, e2, hex⟩
    exact ⟨E, rfl, chk4 k4 ⟨e1, e2⟩, hex⟩
  have k0 : ¬ (x.kind = 1 ∨ x.kind = 2 ∨ x.kind = 3 ∨ x.kind = 4) := by rintro (h | h | h | h) <;> contradiction
  refine (rcheck_none w0 M m n p R xs x k0 w hx h).mono ?_
  rintro e w' ⟨rfl, hex⟩
  exact ⟨1, rfl, chk0 k0 rfl, hex⟩
def RAP (w0 : World) (M : Nat) (m n : Int) (p : Nat → Pa) (R : Nat → Value) (xs : Nat → List Vt) (x : Rk) (w : World) (e : Ending) (w' : World) : Prop :=
  ∃ (E : Int) (p' : Nat → Pa) (R' : Nat → Value) (xs' : Nat → List Vt), e = .returned (.int .i64 E) ∧ StepC m n p (ctF xs) x E p' (ctF xs') ∧ RS w0 w' M m n p' R' xs' ∧ Kt [124] w0.heap.size w w' ∧ ∀ i, i < 16 → Lies w (R i) (R' i)
theorem rap_no {w0 : World} {M : Nat} {m n : Int} {p : Nat → Pa} {R : Nat → Value} {xs : Nat → List Vt} {x : Rk} {w w' : World} {E : Int} (hc : ChkC m n p (ctF xs) x E) (h0 : E ≠ 0) (h : RS w0 w M m n p R xs) (hx : Ex w w') : RAP w0 M m n p R xs x w (.returned (.int .i64 E)) w' :=
  ⟨E, p, R, xs, rfl, ⟨hc, fun _ => ⟨rfl, rfl⟩, fun h => absurd h h0, fun h => absurd h h0, fun h => absurd h h0, fun h => absurd h h0⟩, h.ext hx, hx.kt h.sz, fun i _ => Or.inl rfl⟩
theorem rap_yes {w0 : World} {M : Nat} {m n : Int} {p : Nat → Pa} {R : Nat → Value} {xs : Nat → List Vt} {x : Rk} {w w' : World} {s : Nat} {q : Pa} {ys : List Vt} (hf : RAF w0 M m n p R xs s q ys w w') (hst : StepC m n p (ctF xs) x 0 (updF p s q) (updF (ctF xs) s (ys.map Vt.ct))) : RAP w0 M m n p R xs x w (.returned (.int .i64 0)) w' := by
  obtain ⟨v9, h1, h2, h3⟩ := hf
  refine ⟨0, _, _, _, rfl, by rw [ctF_upd]; exact hst, h1, h2, lies_upd ?_⟩
  rcases h3 with e | e
  · rw [e]; exact Or.inl rfl
  exact Or.inr e
theorem rapply_bad (w0 : World) (M : Nat) (m n : Int) (p : Nat → Pa) (R : Nat → Value) (xs : Nat → List Vt) (x : Rk) (hk : x.kind = 1) (hn : ¬ x.keepR) (w : World) (hx : x.In w) (h : RS w0 w M m n p R xs) : Calls Try.prog 24 #[.pointer (some ⟨M, 0, none⟩), x.V] w fun e w' => e = .returned (.int .i64 1) ∧ Ex w w' := by
  obtain ⟨cs, hcs⟩ : ∃ cs, cs = x.C.toArray := ⟨_, rfl⟩
  have A0 : Hid (KB9 (w.alloc (.cells cs 39)) w.heap.size x) := Hi ⟨hx.v.ok, by rw [hcs]; exact Bk.new rfl _ _⟩
  have B0 : Hid (Ex w (w.alloc (.cells cs 39))) := Hi (Ex.alloc _ _)
  have HS := Hi (h.ext B0.out)
  rw [show (Calls Try.prog 24 #[.pointer (some ⟨M, 0, none⟩), x.V] w) = (Calls Try.prog 24 #[.pointer (some ⟨M, 0, none⟩), .agg cs] w) by rw [hcs]; rfl]
  have HX := Hi hx
  clear hcs hx h
  have HK := Hi hk
  go_enter Try.func24, Try.ntmps24
  have HP := Hi HS.out
  have HN := Hi hn
  clear hn
  go_wp2_with (first | ((with_reducible refine so0 ?_ ?_); (focus rfl)) | ((with_reducible refine so4 [39] ?_ ?_); (focus rfl)))
  (with_reducible refine ⟨?_⟩)
  change wpList _ _ _ _ _ (w.alloc (.cells cs 39))
  generalize hw1 : w.alloc (.cells cs 39) = w1 at *
  clear hw1
  obtain ⟨B, hB⟩ : ∃ B, B = w.heap.size := ⟨_, rfl⟩
  rw [← hB] at A0 ⊢
  have HB := Hi hB
  clear hB
  (with_reducible refine at_any ?_ ?_); (focus go_simp); refine fun K0 hK => ld_rk _ B x rfl rfl A0.out (hK _ _ ?_)
  clear hK
  go_wp2_with fail
  obtain ⟨hs16, hs⟩ := home_lt x
  refine (rcheck_keep w0 M m n p R xs x HK.out x.home hs hs16 _ (has_iff (xs x.home) x.v.id) _ rfl w1 (HX.out.ext B0.out) HP.out).mono ?_
  rintro e w2 ⟨E, rfl, he1, he2, x2⟩
  have HE : Hid (E = 1) := Hi (he2 HN.out)
  rw [HE.out]
  replace B0 := Hi (Ex.trans B0.out x2)
  clear he1 he2 x2 hs hs16
  go_wp2_with fail
  go_ret
  exact ⟨rfl, B0.out⟩
theorem rapply_all (w0 : World) (M : Nat) (m n : Int) (p : Nat → Pa) (R : Nat → Value) (xs : Nat → List Vt) (x : Rk) (w : World) (hX : RkX w0 w x) (hsr : ∀ i, i < 16 → (xs i).length ≤ 4 ∧ ∀ a b, a < b → b < (xs i).length → idF (xs i) a < idF (xs i) b) (h : RS w0 w M m n p R xs) : Calls Try.prog 24 #[.pointer (some ⟨M, 0, none⟩), x.V] w (RAP w0 M m n p R xs x w) := by
  have hx := hX.inn
  by_cases k1 : x.kind = 1
  · obtain ⟨hs16, hs⟩ := home_lt x
    have hlen : (ctF xs x.home).length = (xs x.home).length := List.length_map _
    by_cases hr : x.v.ct.right = true
    · refine (rapply_keep w0 M m n p R xs x k1 x.home hs hs16 _ (has_iff (xs x.home) x.v.id) _ rfl w hx (hX.px hr) (hsr _ hs16) h).mono ?_
      rintro e w' (⟨h1, ⟨E, rfl, e0, e1, e2⟩, hex⟩ | ⟨hk, hE, rfl, hf⟩)
      · exact rap_no (chk1 k1 ⟨fun hr => by rw [e1 hr, hlen]; rfl, e2⟩) e0 h hex
      refine rap_yes hf ?_
      rw [updF_id, plc_ct]
      exact step1 k1 hk (by rw [hlen]; exact hE)
    refine (rapply_bad w0 M m n p R xs x k1 (fun hk => hr hk.1) w hx h).mono ?_
    rintro e w' ⟨rfl, hex⟩
    exact rap_no (chk1 k1 ⟨fun hk => absurd hk.1 hr, fun _ => rfl⟩) (by decide) h hex
  by_cases k2 : x.kind = 2
  · refine (rapply_out w0 M m n p R xs x k2 _ rfl w hx h).mono ?_
    rintro e w' (⟨h1, ⟨E, rfl, e0, e1, e2⟩, hex⟩ | ⟨hr, hE, rfl, hf⟩)
    · exact rap_no (chk2 k2 ⟨e1, e2⟩) e0 h hex
    refine rap_yes hf ?_
    rw [show updF (ctF xs) x.shard.toNat ((xs x.shard.toNat).map Vt.ct) = ctF xs from updF_id _ _]
    exact step2 k2 hr hE
  by_cases k3 : x.kind = 3
  · obtain ⟨E1, hE1, hE2⟩ := ex_in x (p x.shard.toNat) (x.shard.toNat : Int)
    refine (rapply_in w0 M m n p R xs x k3 E1 hE1 hE2 w hx hX.pxs h).mono ?_
    rintro e w' (⟨h1, ⟨E, rfl, e0, e1, e2⟩, hex⟩ | ⟨hr, hE, rfl, hf⟩)
    · exact rap_no (chk3 k3 ⟨fun hr => ⟨fun ha => (e1 hr).trans (hE1 ha), fun ha => (e1 hr).trans (hE2 ha)⟩, e2⟩) e0 h hex
    exact rap_yes hf (step3 k3 hr hE1 hE2 hE)
  by_cases k4 : x.kind = 4
  · refine (rapply_done w0 M m n p R xs x k4 _ rfl w hx h).mono ?_
    rintro e w' (⟨h1, ⟨E, rfl, e0, e1, e2⟩, hex⟩ | ⟨hr, hE, rfl, hf⟩)
    · exact rap_no (chk4 k4 ⟨e1, e2⟩) e0 h hex
    exact rap_yes hf (step4 k4 hr hE)
  have k0 : ¬ (x.kind = 1 ∨ x.kind = 2 ∨ x.kind = 3 ∨ x.kind = 4) := by rintro (h | h | h | h) <;> contradiction
  refine (rapply_none w0 M m n p R xs x k0 w hx h).mono ?_
  rintro e w' ⟨rfl, hex⟩
  exact rap_no (chk0 k0 rfl) (by decide) h hex
def setP (m n k : Int) (q : Pa) (ys : List Vt) : Prop := (0 ≤ k ∧ k < 16) ∧ (1 ≤ q.ep ∧ q.ep ≤ 1099511627776) ∧ roleP m n q.role q.tw ys.length ∧ AllOf ys k ∧ Rising ys
theorem set_iff (m n k : Int) (q : Pa) (ys : List Vt) : setP m n k q ys ↔ (0 ≤ k ∧ k < 16) ∧ partP m n k q ys := by
 unfold setP partP roleP
 constructor
 ·rintro ⟨hk, he, hr, ha, hri⟩
  refine ⟨hk, ⟨⟨by omega, by omega⟩, he, fun h0 => by omega, hri⟩, ⟨fun h2 => by omega, fun h2 => by omega⟩, ha⟩
 rintro ⟨hk, ⟨hr, he, hz, hri⟩, ⟨h2, h3⟩, ha⟩
 refine ⟨hk, he, ?_, ha, hri⟩
 by_cases r2 : q.role = 2
 ·exact Or.inr (Or.inr ⟨r2, h2 r2⟩)
 by_cases r0 : q.role = 0
 ·exact Or.inl ⟨r0, h3 r2, hz r0⟩
 exact Or.inr (Or.inl ⟨by omega, h3 r2⟩)
theorem ld_rp {o : Oper} {a : Act} {w : World} {K : Act → World → Prop} {Q : Exit → Act → World → Prop} (x : Operand) (g : Nat) (p : Pa) (d : Value) (ho : o.op = .load 105 x) (ha : a.eval x = .pointer (some ⟨g, 0, none⟩)) (h : Bk w g 105 (partR p d).toArray) (hk : K (a.put o.dst (.agg (partR p d).toArray)) w) : o.wp Try.prog a w K Q := by
 obtain ⟨dd, hd⟩ : ∃ d, Try.prog.underlying 105 = some d ∧ d.isRow = true := ⟨_, Try.underlying105, rfl⟩
 exact wp_ldp (C := partR p d) (partR p d) x g 0 dd ho ha h (by rw [List.drop_zero, List.take_length]) hd.1 hd.2 (by rw [Try.sizeRP]; rfl) hk
def RSetPost (w0 : World) (M : Nat) (m n : Int) (p : Nat → Pa) (R : Nat → Value) (xs : Nat → List Vt) (k : Int) (q : Pa) (ys : List Vt) (w : World) (e : Ending) (w' : World) : Prop :=
 (e = .returned (.bool false) ∧ ¬ setP m n k q ys ∧ Ex w w') ∨ (e = .returned (.bool true) ∧ setP m n k q ys ∧ RAF w0 M m n p R xs k.toNat q ys w w')
theorem rset_any (w0 : World) (M : Nat) (m n : Int) (p : Nat → Pa) (R : Nat → Value) (xs : Nat → List Vt) (k : Int) (hk : i64 k) (q : Pa) (hq : q.Ok) (ad : Option Addr) (cap : Nat) (ys : List Vt) (hcap : cap ≤ 9223372036854775807) (w : World) (hin : Vp.In ad cap ys w) (hpx : ∀ y ∈ ys, PX w0 w y) (h : RS w0 w M m n p R xs) : Calls Try.prog 50 #[.pointer (some ⟨M, 0, none⟩), .int .i64 k, .agg (partR q (.slice ad ys.length cap)).toArray] w (RSetPost w0 M m n p R xs k q ys w) := by
 obtain ⟨nn, hn⟩ : ∃ n, n = ys.length := ⟨_, rfl⟩
 have HN := Hi hn
 rw [← hn]
 obtain ⟨cs, hcs⟩ : ∃ cs, cs = (partR q (.slice ad nn cap)).toArray := ⟨_, rfl⟩
 have A0 : Hid (Bk (w.alloc (.cells cs 105)) w.heap.size 105 (partR q (.slice ad nn cap)).toArray) := Hi (by rw [hcs]; exact Bk.new rfl _ _)
 have B0 : Hid (Ex w (w.alloc (.cells cs 105))) := Hi (Ex.alloc w _)
 have HWS := Hi h.sz
 have HPW := Hi h
 have HP := Hi (h.ext B0.out)
 have HIN := Hi (hin.ext B0.out)
 have HPX := Hi hpx
 have HVI := Hi (fun (i : Nat) (x : Vt) (hx : ys[i]? = some x) => (show VI w x from ⟨(hpx x (List.mem_of_getElem? hx)).ok, (hpx x (List.mem_of_getElem? hx)).sec.inn h.sz⟩).ext B0.out)
 rw [show (Calls Try.prog 50 #[.pointer (some ⟨M, 0, none⟩), .int .i64 k, .agg (partR q (.slice ad nn cap)).toArray] w) = (Calls Try.prog 50 #[.pointer (some ⟨M, 0, none⟩), .int .i64 k, .agg cs] w) by rw [hcs]]
 have HQ := Hi hq
 have HK := Hi hk
 clear hcs h hin hpx hq hk hn
 go_enter Try.func50, Try.ntmps50
 go_upto_region 1 with fail
 change Code.wp _ _ _ _ (w.alloc (.cells cs 105))
 generalize hw1 : (w.alloc (.cells cs 105)) = w1 at *
 clear hw1
 obtain ⟨B, hB⟩ : ∃ B, B = w.heap.size := ⟨_, rfl⟩
 rw [← hB] at A0 ⊢
 have HB := Hi hB
 clear hB
 by_cases k0 : 0 ≤ k
 rotate_left
 ·go_wp2_with fail
  go_ret
  exact Or.inl ⟨rfl, fun h9 => by have := h9.1; omega, B0.out⟩
 by_cases k1 : k < 16
 rotate_left
 ·go_wp2_with fail
  go_ret
  exact Or.inl ⟨rfl, fun h9 => by have := h9.1; omega, B0.out⟩
 go_wp2_with (first | ((with_reducible refine so4 [105, 1000 + 37] ?_ ?_); (focus rfl)) | (with_reducible refine stop_app ?_))
 refine at9 (by go_simp) fun K0 hK => ld_rp _ B q _ rfl rfl A0.out (hK _ _ ?_)
 clear hK
 go_wp2_with fail
 rw [HN.out]
 refine (part_any w0 M m n p R xs k HK.out q HQ.out ad cap ys hcap w1 HIN.out HVI.out HP.out).mono ?_
 rintro e w2 ⟨b, rfl, hb, x2⟩
 rw [← HN.out]
 replace A0 := Hi (A0.out.ext x2)
 replace B0 := Hi (Ex.trans B0.out x2)
 replace HP := Hi (HP.out.ext x2)
 replace HIN := Hi (HIN.out.ext x2)
 cases b
 ·have HNP : Hid (¬ setP m n k q ys) := Hi (fun h => by have := hb.2 ((set_iff m n k q ys).1 h).2; cases this)
  clear hb x2
  go_wp2_with fail
  go_ret
  exact Or.inl ⟨rfl, HNP.out, B0.out⟩
 have HSP : Hid (setP m n k q ys) := Hi ((set_iff m n k q ys).2 ⟨⟨k0, k1⟩, hb.1 rfl⟩)
 have c3 : w2.cell? ⟨B, 3, none⟩ = some (.slice ad nn cap) := (A0.out.cell 3).trans rfl
 have c4 : (w2.alloc (.cells #[] 36)).cell? ⟨B, 3, none⟩ = some (.slice ad nn cap) := ((A0.out.ext (Ex.alloc w2 _)).cell 3).trans rfl
 obtain ⟨s, hs⟩ : ∃ s : Nat, k = (s : Int) := ⟨k.toNat, by omega⟩
 have hs16 : s < 16 := by omega
 have HKS := Hi hs
 subst hs
 have qs0 : (0 : Int) ≤ (s : Int) := by omega
 have qs1 : (s : Int) < 16 := by omega
 clear hb x2 k0 k1
 go_wp2_with (first | ((with_reducible refine so4 [105, 1000 + 37] ?_ ?_); (focus rfl)) | (with_reducible refine stop_app ?_))
 (with_reducible refine ⟨?_⟩)
 change wpList _ _ _ _ _ (w2.alloc (.cells #[] 36))
 have xa : Ex w2 (w2.alloc (.cells #[] 36)) := Ex.alloc _ _
 have EM : Hid (Emp w2.heap.size (w2.alloc (.cells #[] 36)) 36 (.slice (some ⟨w2.heap.size, 0, none⟩) 0 0)) := Hi ⟨_, rfl, Nat.le_refl _, Bk.new rfl _ _⟩
 replace A0 := Hi (A0.out.ext xa)
 have B3 := Hi (Ex.trans B0.out xa)
 replace HP := Hi (HP.out.ext xa)
 replace HIN := Hi (HIN.out.ext xa)
 have HSZ := Hi (Below.size xa)
 generalize hw3 : (w2.alloc (.cells #[] 36)) = w3 at *
 generalize he9 : (Value.slice (some ⟨w2.heap.size, 0, none⟩) 0 0) = em at *
 clear hw3 xa c3 c4
 (with_reducible refine at_any ?_ ?_); (focus go_simp); refine fun K0 hK => wp_rd0 _ _ 37 36 zeroVt.V 42 96 rfl Try.underlying37 Try.infoVt rfl (by decide) w2.heap.size em rfl EM.out HSZ.out ad nn cap (ys.flatMap Vt.C) rfl (by rw [HN.out]; exact gflat_rd Vt.C 42 (by decide) (fun y hy => by obtain ⟨i9, hi9, e8⟩ := List.getElem_of_mem hy; exact Vt.len (HIN.out.ok i9 y (by rw [List.getElem?_eq_getElem hi9, e8]))) HIN.out.read) (by rw [HN.out]; exact HIN.out.len) HIN.out.nil (vflat_one ys) (by rw [HN.out]; have := HSP.out.2.2.2.2.1; omega) (by rw [HN.out]; have := HSP.out.2.2.2.2.1; omega) (fun v9 w4 r1 r2 => hK _ _ ?_)
 clear hK
 have HR : Hid (RowOf w4 w2.heap.size v9 ys) := Hi (by unfold RowOf; rw [← HN.out]; exact r1)
 replace A0 := Hi (A0.out.ext r2)
 have B4 := Hi (Ex.trans B3.out r2)
 replace HP := Hi (HP.out.ext r2)
 clear r1 r2 EM he9
 obtain ⟨ad9, cap9, e9, _, _, _, _⟩ := own_rd HR.out
 subst e9
 go_wp2_with (first | ((with_reducible refine so4 [105, 1000 + 37] ?_ ?_); (focus rfl)) | (with_reducible refine stop_app ?_))
 refine at9 (by go_simp) fun K0 hK => wp_st1 (C := partR q (.slice ad nn cap)) _ _ B 3 (.slice ad9 ys.length cap9) rfl rfl rfl A0.out (show 3 < 4 from by decide) (by kernel_rfl) rfl (fun w5 hd ho => hK _ _ ?_)
 clear hK
 have hd : Bk w5 B 105 (partR q (.slice ad9 ys.length cap9)).toArray := hd
 have x5 : Ex w w5 := ho.below w.heap.size (by rw [HB.out]; exact Nat.le_refl _) w B4.out
 have kt : Kt [105] 0 w4 w5 := Kt.md ho.md (Nat.zero_le _) A0.out (List.mem_singleton.2 rfl)
 have A5 := Hi hd
 have X5 := Hi x5
 have R5 : Hid (RowOf w5 w2.heap.size (.slice ad9 ys.length cap9) ys) := Hi (kt.row HR.out (by decide))
 have HP5 := Hi (HPW.out.ext x5)
 clear hd ho x5 kt A0 HR HP
 go_wp2_with fail
 have hS0 : ∀ (listed : Array Bool) (f : Nat → Value), (∀ i, listed.getD i false = false) → SP 96 97 98 6 w5 w5.heap.size [] q (RAF w0 M m n p R xs s q ys w) listed f w5.drew := fun _ _ h0 => SP.start h0 (Below.refl w5.heap.size w5).drew
 obtain ⟨T, hT⟩ : ∃ T : List (Value → Prop), T = [(fun zz => zz = .pointer (some ⟨M, 0, none⟩)), (fun zz => zz = .int .i64 (s : Int)), (fun zz => zz = .agg (partR q (.slice ad9 ys.length cap9)).toArray), (fun zz => zz = .pointer (some ⟨M, 0, none⟩)), (fun zz => zz = .pointer (some ⟨M, 2, none⟩)), (fun zz => zz = .pointer (some ⟨M, 2 + s * 4, none⟩)), (fun _ => True)] := ⟨_, rfl⟩
 refine wp_region_gen (JS T ([(6, 2)] : List (Nat × Nat)) (fun lz fz wz => SP 96 97 98 6 w5 w5.heap.size [] q (RAF w0 M m n p R xs s q ys w) lz fz wz)) (by kernel_rfl) (by kernel_rfl) (by kernel_rfl) (fitB_spec (by kernel_rfl)) (fun listed f h => JS.start listed f h (hS0 listed f h)) ?_ ?_
 ·intro i o ho
  have hi : i < 7 := (Array.getElem?_eq_some_iff.1 ho).1
  have hi' : i = 0 ∨ i = 1 ∨ i = 2 ∨ i = 3 ∨ i = 4 ∨ i = 5 ∨ i = 6 := by omega
  clear hi
  rcases hi' with rfl | rfl | rfl | rfl | rfl | rfl | rfl
  all_goals (simp only [List.getElem?_toArray, List.getElem?_cons_zero, List.getElem?_cons_succ, Option.some.injEq] at ho; subst ho; intro listed f a w6 hJ hsz hls hun hdep hout hlat; first | (rw [if_pos (by rfl)]; intro K hK) | skip)
  ·have q0 := hout 0 ob
   have hord : ∀ x ∈ ([(6, 2)] : List (Nat × Nat)), x.1 = 0 → listed.getD x.2 false = true := (by intro x hx he; simp only [List.mem_cons, List.not_mem_nil, or_false] at hx; rcases hx with rfl; all_goals first | (exact absurd he (by decide)) | assumption)
   exact wp_mw _ rfl q0 (hK _ _ (hJ.nx hls hT rfl rfl (SP.plain hJ.st (Ex.refl _) 0 (by decide)) hord))
  ·have q1 := hout 1 ob
   have hord : ∀ x ∈ ([(6, 2)] : List (Nat × Nat)), x.1 = 1 → listed.getD x.2 false = true := (by intro x hx he; simp only [List.mem_cons, List.not_mem_nil, or_false] at hx; rcases hx with rfl; all_goals first | (exact absurd he (by decide)) | assumption)
   exact wp_mw _ rfl q1 (hK _ _ (hJ.nx hls hT rfl rfl (SP.plain hJ.st (Ex.refl _) 1 (by decide)) hord))
  ·have q5 := hout 5 ob
   have hord : ∀ x ∈ ([(6, 2)] : List (Nat × Nat)), x.1 = 2 → listed.getD x.2 false = true := (by intro x hx he; simp only [List.mem_cons, List.not_mem_nil, or_false] at hx; rcases hx with rfl; all_goals first | (exact absurd he (by decide)) | assumption)
   have hcut : listed.getD 6 false = false := by
    cases hc : listed.getD 6 false with
    | false => rfl
    | true => exact absurd (hJ.ord (6, 2) (by simp) hc) (by rw [hun]; decide)
   have hst := hJ.st
   have hpre := hst.ex hcut
   exact ld_rp _ B q (.slice ad9 ys.length cap9) rfl q5 (A5.out.ext hpre) (hK _ _ (hJ.nx hls hT rfl rfl (SP.plain hst (Ex.refl _) 2 (by decide)) hord))
  ·have q25 := hJ.is hT (hdep ⟨0, .data⟩ (by simp) rfl) rfl _ rfl _ rfl
   have hord : ∀ x ∈ ([(6, 2)] : List (Nat × Nat)), x.1 = 3 → listed.getD x.2 false = true := (by intro x hx he; simp only [List.mem_cons, List.not_mem_nil, or_false] at hx; rcases hx with rfl; all_goals first | (exact absurd he (by decide)) | assumption)
   rw [gd9] at q25
   clear hsz hdep hout hlat
   go_simp
   exact hK _ _ (hJ.nx hls hT rfl rfl (SP.plain hJ.st (Ex.refl _) 3 (by decide)) hord)
  ·have q28 := hJ.is hT (hdep ⟨3, .data⟩ (by simp) rfl) rfl _ rfl _ rfl
   have hord : ∀ x ∈ ([(6, 2)] : List (Nat × Nat)), x.1 = 4 → listed.getD x.2 false = true := (by intro x hx he; simp only [List.mem_cons, List.not_mem_nil, or_false] at hx; rcases hx with rfl; all_goals first | (exact absurd he (by decide)) | assumption)
   rw [gd9] at q28
   clear hsz hdep hout hlat
   go_simp
   exact hK _ _ (hJ.nx hls hT rfl rfl (SP.plain hJ.st (Ex.refl _) 4 (by decide)) hord)
  ·have q29 := hJ.is hT (hdep ⟨4, .data⟩ (by simp) rfl) rfl _ rfl _ rfl
   have q26 := hJ.is hT (hdep ⟨1, .data⟩ (by simp) rfl) rfl _ rfl _ rfl
   have hord : ∀ x ∈ ([(6, 2)] : List (Nat × Nat)), x.1 = 5 → listed.getD x.2 false = true := (by intro x hx he; simp only [List.mem_cons, List.not_mem_nil, or_false] at hx; rcases hx with rfl; all_goals first | (exact absurd he (by decide)) | assumption)
   rw [gd9] at q29
   rw [gd9] at q26
   clear hsz hdep hout hlat
   go_simp
   exact hK _ _ (hJ.nx hls hT rfl rfl (SP.plain hJ.st (Ex.refl _) 5 (by decide)) hord)
  have q30 := hJ.is hT (hdep ⟨5, .data⟩ (by simp) rfl) rfl _ rfl _ rfl
  have q27 := hJ.is hT (hdep ⟨2, .data⟩ (by simp) rfl) rfl _ rfl _ rfl
  have hl2 := (hdep ⟨2, .data⟩ (by simp) rfl).1
  have hord : ∀ x ∈ ([(6, 2)] : List (Nat × Nat)), x.1 = 6 → listed.getD x.2 false = true := (by intro x hx he; simp only [List.mem_cons, List.not_mem_nil, or_false] at hx; rcases hx with rfl; all_goals first | (exact absurd he (by decide)) | assumption)
  have hst := hJ.st
  have hpre := hst.ex hun
  have HP4 := HP5.out.ext hpre
  refine wp_stp (C := srC m n p R) (partR q (.slice ad9 ys.length cap9)) _ _ M (2 + s * 4) rfl q30 q27 HP4.blk (by rw [srC_len]; show 2 + s * 4 + 4 ≤ 66; omega) (by rw [Try.sizeRP]; rfl) (partR_ones _ _ _ _) (fun w9 hd ho => ?_)
  rw [srC_part m n p R q (.slice ad9 ys.length cap9) hs16] at hd
  have hrow := hpre.row R5.out
  have hrw : RW w0 w6 (.slice ad9 ys.length cap9) ys := RowOf.rw (h := hrow) (Nat.le_trans HWS.out (Below.size B0.out)) (fun y hy => (HPX.out y hy).ext HWS.out (Ex.trans X5.out hpre))
  have hfn := HP4.fin hs16 HQ.out ho hd hrw
  exact hK _ _ (hJ.nx hls hT rfl (by exact trivial) (SP.turn hst (by rw [hls]; decide) (by decide) ⟨.slice ad9 ys.length cap9, hfn.1, ((Ex.trans X5.out hpre).kt HWS.out).trans hfn.2, Or.inr (fun g hg => Nat.le_trans (Below.size B0.out) (hrow.lt g hg).1)⟩) hord)
 intro listed f w6 hall hJ
 have hst := hJ.st
 simp only [putAll, Act.put, List.setIfInBounds_toArray, List.set_cons_zero, List.set_cons_succ, Nat.zero_add, Nat.reduceAdd]
 obtain ⟨wp, hfin, hxp⟩ := hst.fin (hall 6 (by simp))
 have HFIN := Hi hfin
 have HXP := Hi hxp
 clear hst hS0 hfin hxp
 clear hJ hall hT
 have HFF := Hi (show RAF w0 M m n p R xs s q ys w w6 from by
  obtain ⟨v9, h1, h2, h3⟩ := HFIN.out
  exact ⟨v9, h1.ext HXP.out, h2.trans (HXP.out.kt h1.sz), h3⟩)
 go_wp2_with fail
 go_ret
 exact Or.inr ⟨rfl, HSP.out, HFF.out⟩
theorem built_part4 (a c t : Int) (D : Nat) : Try.prog.built 112 [(0, .int .i64 a), (1, .int .u64 c), (2, .int .i64 t), (3, .pointer (some ⟨D, 0, none⟩))] = some (partC ⟨a, c, t⟩ (some D)).toArray := by kernel_rfl
def SSetPost (B M : Nat) (m n : Int) (p : Nat → Pa) (D : Nat → Nat) (r : Nat → Value) (v : Nat → List Vt) (k : Int) (q : Pa) (ys : List Vt) (w : World) (e : Ending) (w' : World) : Prop :=
 (¬ setP m n k q ys ∧ e = .returned (.int .i64 1) ∧ Ex w w') ∨ (setP m n k q ys ∧ e = .returned (.int .i64 0) ∧ ∃ D9 rv' zs, zs.map Vt.ct = ys.map Vt.ct ∧ SS w' B M m n (updF p k.toNat q) (updF D k.toNat D9) (updF r k.toNat rv') (updF v k.toNat zs) ∧ Md M w w' ∧ w.heap.size ≤ D9 ∧ (∀ g, rv'.ownBlock = some g → w.heap.size ≤ g))
theorem TS.put9 {w w' : World} {B : Nat} {D : Nat → Nat} {r : Nat → Value} {v : Nat → List Vt} (h : TS w B 16 D r v) (h' : TS w' B 16 D r v) {s D9 : Nat} (hs : s < 16) {rv : Value} {zs : List Vt} (ht : TB w' D9 rv zs) (hD : w.heap.size ≤ D9) (hr : ∀ g, rv.ownBlock = some g → w.heap.size ≤ g) : TS w' B 16 (updF D s D9) (updF r s rv) (updF v s zs) := by
 have dlt : ∀ i, i < 16 → D i < w.heap.size := fun i hi => (h.tb i hi).blk.lt
 have rlt : ∀ i, i < 16 → ∀ g, (r i).ownBlock = some g → g < w.heap.size := fun i hi g hg => ((h.tb i hi).row.row.lt g hg).2
 refine ⟨fun i hi => ?_, fun i hi => ?_, fun i j hi hj hne => ?_, fun i j hi hj hne => ?_⟩
 ·by_cases e : i = s
  ·rw [e, updF_same, updF_same, updF_same]; exact ht
  rw [updF_ne _ _ e, updF_ne _ _ e, updF_ne _ _ e]; exact h'.tb i hi
 ·by_cases e : i = s
  ·rw [e, updF_same]; have := h.lo s hs; have := dlt s hs; omega
  rw [updF_ne _ _ e]; exact h.lo i hi
 ·by_cases e : i = s
  ·by_cases e2 : j = s
   ·omega
   rw [e, updF_same, updF_ne _ _ e2]; have := dlt j hj; omega
  by_cases e2 : j = s
  ·rw [e2, updF_same, updF_ne _ _ e]; have := dlt i hi; omega
  rw [updF_ne _ _ e, updF_ne _ _ e2]; exact h.dd i j hi hj hne
 by_cases e : i = s
 ·by_cases e2 : j = s
  ·omega
  rw [e, updF_same, updF_ne _ _ e2]; intro g h1 h2; have := hr g h1; have := rlt j hj g h2; omega
 by_cases e2 : j = s
 ·rw [e2, updF_same, updF_ne _ _ e]; intro g h1 h2; have := hr g h2; have := rlt i hi g h1; omega
 rw [updF_ne _ _ e, updF_ne _ _ e2]; exact h.rr i j hi hj hne
theorem sset_any (B M : Nat) (m n : Int) (p : Nat → Pa) (D : Nat → Nat) (r : Nat → Value) (v : Nat → List Vt) (k : Int) (q : Pa) (hq : q.Ok) (ad : Option Addr) (cap : Nat) (ys : List Vt) (hcap : cap ≤ 9223372036854775807) (w : World) (hin : Vp.In ad cap ys w) (hvi : ∀ (i : Nat) (x : Vt), ys[i]? = some x → VI w x) (h : SS w B M m n p D r v) : Calls Try.prog 51 #[.pointer (some ⟨M, 0, none⟩), .int .i64 k, .int .i64 q.role, .int .u64 q.ep, .int .i64 q.tw, .slice ad ys.length cap] w (SSetPost B M m n p D r v k q ys w) := by
 have HS := Hi h
 have HIN := Hi hin
 have HVI := Hi hvi
 have HQ := Hi hq
 obtain ⟨nn, hn⟩ : ∃ n, n = ys.length := ⟨_, rfl⟩
 have HN := Hi hn
 rw [← hn]
 have hnm : nn ≤ 9223372036854775807 := by rw [hn]; exact Nat.le_trans hin.len hcap
 clear h hin hvi hq hn
 go_enter Try.func51, Try.ntmps51
 go_wp2_with fail
 refine (isshard_any k w).mono ?_
 rintro e w1 ⟨rfl, rfl⟩
 by_cases hk9 : 0 ≤ k ∧ k < 16
 rotate_left
 ·rw [decide_eq_false hk9]
  go_wp2_with fail
  go_ret
  exact Or.inl ⟨fun h9 => by have := h9.1; omega, rfl, Ex.refl _⟩
 rw [decide_eq_true hk9]
 have HK9 := Hi hk9
 by_cases e0 : 1 ≤ q.ep
 rotate_left
 ·go_wp2_with fail
  go_ret
  exact Or.inl ⟨fun h9 => by have := h9.2.1.1; omega, rfl, Ex.refl _⟩
 by_cases e1 : q.ep ≤ 1099511627776
 rotate_left
 ·go_wp2_with fail
  go_ret
  exact Or.inl ⟨fun h9 => by have := h9.2.1.2; omega, rfl, Ex.refl _⟩
 go_wp2_with fail
 refine (rrole_any B M m n p D r v q.role q.tw ad nn cap w HS.out).mono ?_
 rintro e w2 ⟨b, rfl, hb, x2⟩
 have HBR := Hi (show b = false ∨ roleP m n q.role q.tw ys.length from by cases b; exact Or.inl rfl; exact Or.inr (by rw [← HN.out]; exact hb.1 rfl))
 have HBN := Hi (show b = true ∨ ¬ roleP m n q.role q.tw ys.length from by cases b; exact Or.inr (fun h => by rw [← HN.out] at h; have := hb.2 h; cases this); exact Or.inl rfl)
 have X2 := Hi x2
 clear hb x2
 cases b
 ·have HNR := Hi (HBN.out.resolve_left (by decide))
  clear HBR HBN
  go_wp2_with fail
  go_ret
  exact Or.inl ⟨fun h9 => HNR.out h9.2.2.1, rfl, X2.out⟩
 have HRP := Hi (HBR.out.resolve_left (by decide))
 clear HBR HBN
 go_wp2_with fail
 rw [HN.out]
 refine (allof_any k ad cap ys hcap w2 (HIN.out.ext X2.out) (fun i x hx => (HVI.out i x hx).ext X2.out)).mono ?_
 rintro e w3 ⟨b, rfl, hb, x3⟩
 rw [← HN.out]
 have HBR := Hi (show b = false ∨ AllOf ys k from by cases b; exact Or.inl rfl; exact Or.inr (hb.1 rfl))
 have HBN := Hi (show b = true ∨ ¬ AllOf ys k from by cases b; exact Or.inr (fun h => by have := hb.2 h; cases this); exact Or.inl rfl)
 replace X2 := Hi (Ex.trans X2.out x3)
 clear hb x3
 cases b
 ·have HNR := Hi (HBN.out.resolve_left (by decide))
  clear HBR HBN
  go_wp2_with fail
  go_ret
  exact Or.inl ⟨fun h9 => HNR.out h9.2.2.2.1, rfl, X2.out⟩
 have HAO := Hi (HBR.out.resolve_left (by decide))
 clear HBR HBN
 go_wp2_with fail
 refine (tnew_any w3).mono ?_
 rintro e w4 ⟨D9, rfl, hD9, ht, x4⟩
 have HT := Hi ht
 have HD9 := Hi (Nat.le_trans (Below.size X2.out) hD9)
 replace X2 := Hi (Ex.trans X2.out x4)
 clear hD9 ht x4
 go_wp2_with fail
 rw [HN.out]
 refine (tfill_any2 D9 _ _ ad cap ys hcap w4 HT.out (HIN.out.ext X2.out) (fun i x hx => (HVI.out i x hx).ext X2.out)).mono ?_
 rw [← HN.out]
 rintro e w5 ⟨⟨hri, rfl, rv', zs, ht5, hct, hfr, _⟩ | ⟨hri, rfl, x5⟩, hmd⟩
 ·have X5 : Hid (Ex w w5) := Hi (hmd.ex X2.out HD9.out)
  have HT5 := Hi ht5
  have HFR := Hi (show ∀ g, rv'.ownBlock = some g → w.heap.size ≤ g from fun g hg => Nat.le_trans (Below.size X2.out) (hfr g hg))
  have HCT := Hi hct
  have HRI := Hi hri
  have HSP : Hid (setP m n k q ys) := Hi ⟨HK9.out, ⟨e0, e1⟩, HRP.out, HAO.out, hri⟩
  obtain ⟨s, hs⟩ : ∃ s : Nat, k = (s : Int) := ⟨k.toNat, by omega⟩
  have hs16 : s < 16 := by omega
  subst hs
  have qs0 : (0 : Int) ≤ (s : Int) := by omega
  have qs1 : (s : Int) < 16 := by omega
  clear ht5 hct hfr hri hmd
  go_wp2_with ((with_reducible refine so4 [4000 + 112, 1000 + 112] ?_ ?_); (focus rfl))
  refine at9 (by go_simp) fun K0 hK => wp_build _ _ rfl _ (built_part4 q.role q.ep q.tw D9) (hK _ _ ?_)
  clear hK
  go_wp2_with ((with_reducible refine so4 [4000 + 112, 1000 + 112] ?_ ?_); (focus rfl))
  refine at9 (by go_simp) fun K0 hK => wp_stp (C := stC m n p (fun i => some (D i))) (partC q (some D9)) _ _ M (2 + s * 4) rfl rfl rfl (HS.out.ext X5.out).blk (by rw [stC_len]; show 2 + s * 4 + 4 ≤ 66; omega) (by rw [Try.sizePart]; rfl) (part_ones _ _) (fun w6 hd ho => hK _ _ ?_)
  clear hK
  rw [stC_part m n p (fun i => some (D i)) q (some D9) hs16] at hd
  have kt : Kt [115] 0 w5 w6 := Kt.md ho.md (Nat.zero_le _) (HS.out.ext X5.out).blk (List.mem_singleton.2 rfl)
  have HF : Hid (SS w6 B M m n (updF p s q) (updF D s D9) (updF r s rv') (updF v s zs) ∧ Md M w w6) := Hi (by
   refine ⟨⟨?_, HS.out.ts.put9 ((HS.out.ext X5.out).ts.kts kt (by decide) (by decide) (by decide)) hs16 (HT5.out.kts kt (by decide) (by decide) (by decide)) HD9.out HFR.out, fun i hi => ?_, HS.out.mok⟩, (Ex.md X5.out (Nat.le_of_lt HS.out.blk.lt)).trans ho.md⟩
   ·rw [show (fun i => some (updF D s D9 i)) = updF (fun i => some (D i)) s (some D9) from by funext i; unfold updF; split <;> rfl]; exact hd
   ·by_cases e : i = s
    ·rw [e, updF_same]; exact HQ.out
    ·rw [updF_ne _ _ e]; exact HS.out.ok i hi)
  clear hd ho kt
  go_wp2_with fail
  go_ret
  exact Or.inr ⟨HSP.out, rfl, D9, rv', zs, HCT.out, HF.out.1, HF.out.2, HD9.out, HFR.out⟩
 have X5 := Hi (Ex.trans X2.out x5)
 have HRI := Hi hri
 clear hri x5 hmd
 go_wp2_with fail
 go_ret
 exact Or.inl ⟨fun h9 => HRI.out h9.2.2.2.2, rfl, X5.out⟩
structure Awp.In (ad : Option Addr) (cap : Nat) (l : List Aw) (w : World) : Prop where
 len : l.length ≤ cap
 nil : ad = none → cap = 0
 ins : ∀ (i : Nat) (x : Aw), l[i]? = some x → x.In w
 read : 0 < l.length → ∃ a o, ad = some ⟨a, o, none⟩ ∧ a < w.heap.size ∧ ∀ (i : Nat) (x : Aw), l[i]? = some x → w.rangeAt a (o + i * 64) x.C
theorem Awp.In.ext {ad : Option Addr} {cap : Nat} {l : List Aw} {w w' : World} (h : Awp.In ad cap l w) (k : Ex w w') : Awp.In ad cap l w' :=
 ⟨h.len, h.nil, fun i x hx => (h.ins i x hx).ext k, fun h0 => by
  obtain ⟨a, o, e, hB, hc⟩ := h.read h0
  exact ⟨a, o, e, Nat.lt_of_lt_of_le hB (Below.size k), fun i x hx j v hv => (Below.cell (p := ⟨a, o + i * 64 + j, none⟩) k hB).trans (hc i x hx j v hv)⟩⟩
theorem Try.sizeAw : (Try.prog.info? 41).map (·.size) = some 64 := by kernel_rfl
theorem ld_aw {o : Oper} {a : Act} {w : World} {K : Act → World → Prop} {Q : Exit → Act → World → Prop} (y : Operand) (g off : Nat) (x : Aw) (hx : x.raw.v.Ok) (ho : o.op = .load 41 y) (ha : a.eval y = .pointer (some ⟨g, off, none⟩)) (h : w.rangeAt g off x.C) (hk : K (a.put o.dst x.V) w) : o.wp Try.prog a w K Q := by
 obtain ⟨dd, hd⟩ : ∃ d, Try.prog.underlying 41 = some d ∧ d.isRow = true := ⟨_, Try.underlying41, rfl⟩
 exact wp_load_mid 41 y ho g off ha x.C dd h hd.1 hd.2 (by rw [Try.sizeAw, Aw.len hx]) hk
theorem SS.rising {w : World} {B M : Nat} {m n : Int} {p : Nat → Pa} {D : Nat → Nat} {r : Nat → Value} {v : Nat → List Vt} (h : SS w B M m n p D r v) (hw : WfC p (ctF v)) : ∀ i, i < 16 → Rising (v i) := fun i hi =>
 ⟨(h.ts.tb i hi).len, fun q x hx => (hw i hi).1 x.ct (List.mem_map.2 ⟨x, List.mem_of_getElem? hx, rfl⟩), fun q hq => (h.ts.tb i hi).srt q (q + 1) (Nat.lt_succ_self q) hq⟩
theorem apart9 {w w' : World} {B M B2 M2 : Nat} {m n m2 n2 : Int} {p p2 : Nat → Pa} {D D2 : Nat → Nat} {r r2 : Nat → Value} {v v2 : Nat → List Vt} (h : SS w B M m n p D r v) (h2 : SS w' B2 M2 m2 n2 p2 D2 r2 v2) (hB : w.heap.size ≤ B2) : Apart D r D2 r2 := by
 refine ⟨fun i j hi hj e => ?_, fun i j hi hj g hg hg2 => ?_⟩
 ·have h3 := (h.ts.tb i hi).blk.lt
  have h4 := h2.ts.lo j hj
  omega
 have h3 := ((h.ts.tb i hi).row.row.lt g hg).2
 have h4 := ((h2.ts.tb j hj).row.row.lt g hg2).1
 have h5 := h2.ts.lo j hj
 omega
theorem RkM.sfr {w w' : World} {B M B9 : Nat} {m n : Int} {p : Nat → Pa} {D : Nat → Nat} {r : Nat → Value} {v : Nat → List Vt} {x : Rk} (k : SFr M D r w w') (h : SS w B M m n p D r v) (hx : RkM w B9 x) (hlt : ∀ i, i < 16 → ∀ g, (r i).ownBlock = some g → g < B9) : RkM w' B9 x := by
 have hd : ∀ i, i < 16 → Djn (.slice x.ad x.l.length x.cap) (r i) := fun i hi g h1 h2 => by
  have h3 := (hx.row.row.lt g h1).1
  have h4 := hlt i hi g h2
  omega
 exact rkm_of hx.inn.kind hx.inn.shard hx.inn.tw hx.inn.ep (k.tvn h hx.v) (k.row h hx.row hd) hx.sh
structure EI (w0 w : World) (B M : Nat) (m n : Int) (D : Nat → Nat) (M2 : Nat) (p : Nat → Pa) (r : Nat → Value) (v : Nat → List Vt) (R : Nat → Value) (xs : Nat → List Vt) : Prop where
 s : SS w B M m n p D r v
 f : RS w0 w M2 m n p R xs
 dj : ∀ j, j < 16 → ∀ i, i < 16 → Djn (R j) (r i)
 eq : ∀ i, i < 16 → ctF v i = ctF xs i
 wf : WfC p (ctF v)
 ex : Ex w0 w
 lo : w0.heap.size ≤ M ∧ w0.heap.size ≤ B
structure EJ (w0 w : World) (B M : Nat) (m n : Int) (D : Nat → Nat) (M2 : Nat) (p p' : Nat → Pa) (r' : Nat → Value) (v v' : Nat → List Vt) (R : Nat → Value) (xs : Nat → List Vt) (x : Rk) (E : Int) : Prop where
 s : SS w B M m n p' D r' v'
 st : StepC m n p (ctF v) x E p' (ctF v')
 f : RS w0 w M2 m n p R xs
 dj : ∀ j, j < 16 → ∀ i, i < 16 → Djn (R j) (r' i)
 eq : ∀ i, i < 16 → ctF v i = ctF xs i
 wf : WfC p (ctF v)
 ris : ∀ i, i < 16 → Rising (xs i)
 ex : Ex w0 w
 lo : w0.heap.size ≤ M ∧ w0.heap.size ≤ B
section
variable {w0 w w' : World} {B M : Nat} {m n : Int} {D : Nat → Nat} {M2 : Nat} {p p' : Nat → Pa} {r r' : Nat → Value} {v v' : Nat → List Vt} {R R' : Nat → Value} {xs xs' : Nat → List Vt} {x : Rk} {E E2 : Int}
theorem EI.ext (h : EI w0 w B M m n D M2 p r v R xs) (k : Ex w w') : EI w0 w' B M m n D M2 p r v R xs := ⟨h.s.ext k, h.f.ext k, h.dj, h.eq, h.wf, Ex.trans h.ex k, h.lo⟩
theorem EJ.ext (h : EJ w0 w B M m n D M2 p p' r' v v' R xs x E) (k : Ex w w') : EJ w0 w' B M m n D M2 p p' r' v v' R xs x E := ⟨h.s.ext k, h.st, h.f.ext k, h.dj, h.eq, h.wf, h.ris, Ex.trans h.ex k, h.lo⟩
theorem EI.ris (h : EI w0 w B M m n D M2 p r v R xs) : ∀ i, i < 16 → Rising (xs i) := fun i hi => rising_ct (h.eq i hi).symm (h.s.rising h.wf i hi)
theorem EI.sap (h : EI w0 w B M m n D M2 p r v R xs) (st : StepC m n p (ctF v) x E p' (ctF v')) (hs : SS w' B M m n p' D r' v') (fr : SFr M D r w w') (hl : ∀ i, i < 16 → Lies w (r i) (r' i)) : EJ w0 w' B M m n D M2 p p' r' v v' R xs x E :=
 ⟨hs, st, fr.rs h.s h.lo.1 h.lo.2 h.f h.dj, fun j hj i hi => (hl i hi).djn9 (h.dj j hj i hi) (fun g hg => ((h.f.rw j hj).row.lt g hg).2), h.eq, h.wf, h.ris, fr.ex h.s h.lo.1 h.lo.2 h.ex, h.lo⟩
theorem EJ.rap (h : EJ w0 w B M m n D M2 p p' r' v v' R xs x E) {p2 : Nat → Pa} (hx : x.In w) (st : StepC m n p (ctF xs) x E2 p2 (ctF xs')) (hf : RS w0 w' M2 m n p2 R' xs') (kt : Kt [124] w0.heap.size w w') (hl : ∀ i, i < 16 → Lies w (R i) (R' i)) : E2 = E ∧ EI w0 w' B M m n D M2 p' r' v' R' xs' := by
 obtain ⟨e1, e2, e3⟩ := h.st.uniq st h.eq
 subst e2
 exact ⟨e1.symm, ⟨h.s.kts kt (by decide) (by decide) (by decide) (by decide), hf, fun j hj i hi g h1 h2 => (hl j hj).djn9 (y := r' i) (fun g a b => h.dj j hj i hi g b a) (fun g hg => ((h.s.ts.tb i hi).row.row.lt g hg).2) g h2 h1, e3, h.st.wf h.wf hx.ep hx.tw, Below.trans h.ex kt.below, h.lo⟩⟩
end
theorem wf_new (m n : Int) (v : Nat → List Vt) (h : ∀ i, i < 16 → v i = []) : WfC (newP m n) (ctF v) := fun i hi => by
 have e : ctF v i = [] := by unfold ctF; rw [h i hi]; rfl
 rw [e]
 exact ⟨fun c hc => by simp at hc, fun _ => rfl, newP_ok m n i⟩
theorem ei_new {w0 w1 w2 : World} {M M2 : Nat} {m n : Int} {D : Nat → Nat} {r : Nat → Value} {v : Nat → List Vt} (hs : SS w1 w0.heap.size M m n (newP m n) D r v) (hM : w0.heap.size ≤ M) (hv : ∀ i, i < 16 → v i = []) (x1 : Ex w0 w1) (hf : RS w1 w2 M2 m n (newP m n) (fun _ => .slice none 0 0) (fun _ => [])) (x2 : Ex w1 w2) : EI w0 w2 w0.heap.size M m n D M2 (newP m n) r v (fun _ => .slice none 0 0) (fun _ => []) :=
 ⟨hs.ext x2, ⟨hf.blk, fun i hi => RW.nil _ _, hf.ok, hf.mok, Nat.le_trans (Below.size x1) hf.lo, Nat.le_trans (Below.size x1) hf.sz⟩, (fun j hj i hi g h1 => by cases h1), (fun i hi => by unfold ctF; rw [hv i hi]), wf_new m n v hv, Ex.trans x1 x2, hM, Nat.le_refl _⟩
end Go.Proofs.Ytmjfnpmnhehnkaa
