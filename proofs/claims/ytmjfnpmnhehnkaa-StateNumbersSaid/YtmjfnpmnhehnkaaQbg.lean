/- Rf -/
import Derived.Test.YtmjfnpmnhehnkaaQbf
set_option maxRecDepth 100000
set_option maxHeartbeats 16000000
namespace Go.Proofs.Ytmjfnpmnhehnkaa
open Go.RowKit
structure S3R (i1 i2 i3 : Nat) (w0 : World) (M : Nat) (m n : Int) (p : Nat → Pa) (D : Nat → Value) (s : Nat) (a e t : Int) (l : Array Bool) (w : World) : Prop where
 blk : Bk w M 124 (srC m n (updF p s (qp (l.getD i1 false) (l.getD i2 false) (l.getD i3 false) a e t (p s))) D).toArray
 md : Md M w0 w
section
variable {i1 i2 i3 : Nat} {w0 w w' : World} {M : Nat} {m n : Int} {p : Nat → Pa} {D : Nat → Value} {s : Nat} {a e t : Int} {l : Array Bool}
theorem S3R.start (h0 : ∀ i, l.getD i false = false) (hb : Bk w M 124 (srC m n p D).toArray) (hm : Md M w0 w) : S3R i1 i2 i3 w0 M m n p D s a e t l w := ⟨by rw [h0, h0, h0, show qp false false false a e t (p s) = p s from rfl, updF_id]; exact hb, hm⟩
theorem S3R.plain (h : S3R i1 i2 i3 w0 M m n p D s a e t l w) (i : Nat) (hi : i ≠ i1 ∧ i ≠ i2 ∧ i ≠ i3) : S3R i1 i2 i3 w0 M m n p D s a e t (l.setIfInBounds i true) w := ⟨by rw [gset hi.1 false, gset hi.2.1 false, gset hi.2.2 false]; exact h.blk, h.md⟩
theorem S3R.s1 (h : S3R i1 i2 i3 w0 M m n p D s a e t l w) (hs : s < 16) (hl : i1 < l.size) (h12 : i1 ≠ i2) (h13 : i1 ≠ i3) (ho : Only M w w') (hb : Bk w' M 124 ((srC m n (updF p s (qp (l.getD i1 false) (l.getD i2 false) (l.getD i3 false) a e t (p s))) D).set (2 + s * 4 + 0) (.int .i64 a)).toArray) : S3R i1 i2 i3 w0 M m n p D s a e t (l.setIfInBounds i1 true) w' := by
 refine ⟨?_, h.md.trans ho.md⟩
 rw [set_new hl, gset h12 false, gset h13 false]
 rw [srC_set0 m n _ D (qp true (l.getD i2 false) (l.getD i3 false) a e t (p s)) (.int .i64 a) hs (show 0 < 4 by decide) (by rw [updF_same]; rfl), updF_upd] at hb
 exact hb
theorem S3R.s2 (h : S3R i1 i2 i3 w0 M m n p D s a e t l w) (hs : s < 16) (hl : i2 < l.size) (h12 : i2 ≠ i1) (h13 : i2 ≠ i3) (ho : Only M w w') (hb : Bk w' M 124 ((srC m n (updF p s (qp (l.getD i1 false) (l.getD i2 false) (l.getD i3 false) a e t (p s))) D).set (2 + s * 4 + 1) (.int .u64 e)).toArray) : S3R i1 i2 i3 w0 M m n p D s a e t (l.setIfInBounds i2 true) w' := by
 refine ⟨?_, h.md.trans ho.md⟩
 rw [set_new hl, gset h12 false, gset h13 false]
 rw [srC_set0 m n _ D (qp (l.getD i1 false) true (l.getD i3 false) a e t (p s)) (.int .u64 e) hs (show 1 < 4 by decide) (by rw [updF_same]; rfl), updF_upd] at hb
 exact hb
theorem S3R.s3 (h : S3R i1 i2 i3 w0 M m n p D s a e t l w) (hs : s < 16) (hl : i3 < l.size) (h12 : i3 ≠ i1) (h13 : i3 ≠ i2) (ho : Only M w w') (hb : Bk w' M 124 ((srC m n (updF p s (qp (l.getD i1 false) (l.getD i2 false) (l.getD i3 false) a e t (p s))) D).set (2 + s * 4 + 2) (.int .i64 t)).toArray) : S3R i1 i2 i3 w0 M m n p D s a e t (l.setIfInBounds i3 true) w' := by
 refine ⟨?_, h.md.trans ho.md⟩
 rw [set_new hl, gset h12 false, gset h13 false]
 rw [srC_set0 m n _ D (qp (l.getD i1 false) (l.getD i2 false) true a e t (p s)) (.int .i64 t) hs (show 2 < 4 by decide) (by rw [updF_same]; rfl), updF_upd] at hb
 exact hb
end
theorem Try.sizeRP : (Try.prog.info? 105).map (·.size) = some 4 := by kernel_rfl
theorem partR_ones (p : Pa) (ad : Option Addr) (n c : Nat) : (partR p (.slice ad n c)).toArray.all (·.oneCell') = true := all_oneCell_toArray (by
 intro v hv
 simp only [partR, List.mem_cons, List.not_mem_nil, or_false] at hv
 rcases hv with rfl | rfl | rfl | rfl <;> rfl)
theorem built_rp1 (e : Int) (ad : Option Addr) (n c : Nat) : Try.prog.built 105 [(0, .int .i64 1), (1, .int .u64 e), (3, .slice ad n c)] = some (partR ⟨1, e, 0⟩ (.slice ad n c)).toArray := by kernel_rfl
theorem built_rp0 (e : Int) : Try.prog.built 105 [(1, .int .u64 e)] = some (partR ⟨0, e, 0⟩ (.slice none 0 0)).toArray := by kernel_rfl
structure SP (ie ir ib it : Nat) (w0 : World) (B : Nat) (ys : List Vt) (q : Pa) (Fin : World → Prop) (l : Array Bool) (f : Nat → Value) (w : World) : Prop where
 ex : l.getD it false = false → Ex w0 w
 emp : l.getD it false = false → l.getD ie false = true → l.getD ir false = false → Emp B w 36 (f ie)
 row : l.getD it false = false → l.getD ir false = true → RowOf w B (f ir) ys
 bld : l.getD ib false = true → f ib = .agg (partR q (f ir)).toArray
 fin : l.getD it false = true → ∃ wp, Fin wp ∧ Ex wp w
section
variable {ie ir ib it : Nat} {w0 w w' : World} {B : Nat} {ys : List Vt} {q : Pa} {Fin : World → Prop} {l : Array Bool} {f : Nat → Value} {x : Value}
theorem SP.start (h0 : ∀ i, l.getD i false = false) (hx : Ex w0 w) : SP ie ir ib it w0 B ys q Fin l f w := ⟨fun _ => hx, (fun _ a => by rw [h0] at a; cases a), (fun _ a => by rw [h0] at a; cases a), (fun a => by rw [h0] at a; cases a), (fun a => by rw [h0] at a; cases a)⟩
theorem Emp.ext9 {v : Value} (h : Emp B w 36 v) (k : Ex w w') : Emp B w' 36 v := by obtain ⟨g, h1, h2, h3⟩ := h; exact ⟨g, h1, h2, h3.ext k⟩
theorem SP.plain (h : SP ie ir ib it w0 B ys q Fin l f w) (kx : Ex w w') (i : Nat) (hi : i ≠ ie ∧ i ≠ ir ∧ i ≠ ib ∧ i ≠ it) : SP ie ir ib it w0 B ys q Fin (l.setIfInBounds i true) (upd f i x) w' := by
 refine ⟨fun a => ?_, fun a b c => ?_, fun a b => ?_, fun a => ?_, fun a => ?_⟩
 ·rw [gset hi.2.2.2 false] at a; exact Ex.trans (h.ex a) kx
 ·rw [gset hi.2.2.2 false] at a; rw [gset hi.1 false] at b; rw [gset hi.2.1 false] at c; rw [upd_ne _ _ (Ne.symm hi.1)]; exact (h.emp a b c).ext9 kx
 ·rw [gset hi.2.2.2 false] at a; rw [gset hi.2.1 false] at b; rw [upd_ne _ _ (Ne.symm hi.2.1)]; exact kx.row (h.row a b)
 ·rw [gset hi.2.2.1 false] at a; rw [upd_ne _ _ (Ne.symm hi.2.2.1), upd_ne _ _ (Ne.symm hi.2.1)]; exact h.bld a
 rw [gset hi.2.2.2 false] at a; obtain ⟨wp, h1, h2⟩ := h.fin a; exact ⟨wp, h1, Ex.trans h2 kx⟩
theorem SP.sEmp (h : SP ie ir ib it w0 B ys q Fin l f w) (h1 : ie ≠ ir ∧ ie ≠ ib ∧ ie ≠ it) (hit : l.getD it false = false) (hB : B ≤ w0.heap.size) : SP ie ir ib it w0 B ys q Fin (l.setIfInBounds ie true) (upd f ie (.slice (some ⟨w.heap.size, 0, none⟩) 0 0)) (w.alloc (.cells #[] 36)) := by
 have kx := Ex.alloc w (.cells #[] 36)
 refine ⟨fun a => Ex.trans (h.ex hit) kx, fun a b c => ?_, fun a b => ?_, fun a => ?_, fun a => ?_⟩
 ·rw [upd_same]; exact ⟨_, rfl, Nat.le_trans hB (Below.size (h.ex hit)), Bk.new rfl _ _⟩
 ·rw [gset h1.1 false] at b; rw [upd_ne _ _ (Ne.symm h1.1)]; exact kx.row (h.row hit b)
 ·rw [gset h1.2.1 false] at a; rw [upd_ne _ _ (Ne.symm h1.2.1), upd_ne _ _ (Ne.symm h1.1)]; exact h.bld a
 rw [gset h1.2.2 false, hit] at a; cases a
theorem SP.sRow (h : SP ie ir ib it w0 B ys q Fin l f w) (hl : ir < l.size) (h1 : ir ≠ ib ∧ ir ≠ it ∧ ir ≠ ie) (hit : l.getD it false = false) (hib : l.getD ib false = false) (kx : Ex w w') (hr : RowOf w' B x ys) : SP ie ir ib it w0 B ys q Fin (l.setIfInBounds ir true) (upd f ir x) w' := by
 refine ⟨fun a => Ex.trans (h.ex hit) kx, fun a b c => ?_, fun a b => ?_, fun a => ?_, fun a => ?_⟩
 ·rw [set_new hl] at c; cases c
 ·rw [upd_same]; exact hr
 ·rw [gset h1.1 false, hib] at a; cases a
 rw [gset h1.2.1 false, hit] at a; cases a
theorem SP.sBld (h : SP ie ir ib it w0 B ys q Fin l f w) (h1 : ib ≠ ir ∧ ib ≠ it ∧ ib ≠ ie) (hx : x = .agg (partR q (f ir)).toArray) : SP ie ir ib it w0 B ys q Fin (l.setIfInBounds ib true) (upd f ib x) w := by
 refine ⟨fun a => ?_, fun a b c => ?_, fun a b => ?_, fun a => ?_, fun a => ?_⟩
 ·rw [gset h1.2.1 false] at a; exact h.ex a
 ·rw [gset h1.2.1 false] at a; rw [gset h1.2.2 false] at b; rw [gset h1.1 false] at c; rw [upd_ne _ _ (Ne.symm h1.2.2)]; exact h.emp a b c
 ·rw [gset h1.2.1 false] at a; rw [gset h1.1 false] at b; rw [upd_ne _ _ (Ne.symm h1.1)]; exact h.row a b
 ·rw [upd_same, upd_ne _ _ (Ne.symm h1.1)]; exact hx
 rw [gset h1.2.1 false] at a; exact h.fin a
theorem SP.turn (h : SP ie ir ib it w0 B ys q Fin l f w) (hl : it < l.size) (h1 : it ≠ ir ∧ it ≠ ib) (hf : Fin w') : SP ie ir ib it w0 B ys q Fin (l.setIfInBounds it true) (upd f it x) w' := by
 refine ⟨fun a => ?_, fun a b c => ?_, fun a b => ?_, fun a => ?_, fun a => ⟨w', hf, Ex.refl _⟩⟩
 ·rw [set_new hl] at a; cases a
 ·rw [set_new hl] at a; cases a
 ·rw [set_new hl] at a; cases a
 rw [gset h1.2 false] at a; rw [upd_ne _ _ (Ne.symm h1.2), upd_ne _ _ (Ne.symm h1.1)]; exact h.bld a
end
theorem RS.fin {w0 w w' : World} {M : Nat} {m n : Int} {p : Nat → Pa} {R : Nat → Value} {xs : Nat → List Vt} (h : RS w0 w M m n p R xs) {s : Nat} (hs : s < 16) {q : Pa} {v : Value} {ys : List Vt} (hq : q.Ok) (ho : Only M w w') (hb : Bk w' M 124 (srC m n (updF p s q) (updF R s v)).toArray) (hr : RW w0 w v ys) : RS w0 w' M m n (updF p s q) (updF R s v) (updF xs s ys) ∧ Kt [124] w0.heap.size w w' := by
 have kt : Kt [124] w0.heap.size w w' := Kt.md ho.md h.lo h.blk (List.mem_singleton.2 rfl)
 refine ⟨h.own kt hb (fun i hi => ?_) (fun i hi => ?_), kt⟩
 ·by_cases e : i = s
  ·rw [e, updF_same, updF_same]; exact Or.inr (hr.kt kt (by decide) (by decide))
  exact Or.inl ⟨updF_ne _ _ e, updF_ne _ _ e⟩
 by_cases e : i = s
 ·rw [e, updF_same]; exact hq
 rw [updF_ne _ _ e]; exact h.ok i hi
def RAF (w0 : World) (M : Nat) (m n : Int) (p : Nat → Pa) (R : Nat → Value) (xs : Nat → List Vt) (s : Nat) (q : Pa) (ys : List Vt) (w w' : World) : Prop := ∃ v, RS w0 w' M m n (updF p s q) (updF R s v) (updF xs s ys) ∧ Kt [124] w0.heap.size w w' ∧ (v = R s ∨ ∀ g, v.ownBlock = some g → w.heap.size ≤ g)
theorem RowOf.rw {w0 w : World} {v : Value} {ys : List Vt} {B : Nat} (h : RowOf w B v ys) (hB : w0.heap.size ≤ B) (hi : ∀ y ∈ ys, PX w0 w y) : RW w0 w v ys := ⟨rown_less h hB, fun i y hy => hi y (List.mem_of_getElem? hy)⟩
theorem PX.ext {w0 w w' : World} {x : Vt} (h : PX w0 w x) (hs : w0.heap.size ≤ w.heap.size) (k : Ex w w') : PX w0 w' x := ⟨h.ok, h.sec.ext hs k, h.len⟩
theorem plc_mem {x y : Vt} {xs : List Vt} (h : y ∈ plc x xs) : y = x ∨ y ∈ xs := by
 unfold plc lts gts at h
 rcases List.mem_append.1 h with h | h
 ·rcases List.mem_append.1 h with h | h
  ·exact Or.inr (List.mem_filter.1 h).1
  exact Or.inl (List.mem_singleton.1 h)
 exact Or.inr (List.mem_filter.1 h).1
theorem out_getD {l : Array Bool} {i : Nat} (h : l.size ≤ i) : l.getD i false = false := by
 rw [Array.getD_eq_getD_getElem?, Array.getElem?_eq_none h]; rfl
theorem rapply_keep (w0 : World) (M : Nat) (m n : Int) (p : Nat → Pa) (R : Nat → Value) (xs : Nat → List Vt) (x : Rk) (hk : x.kind = 1) (s : Nat) (hs : Sm.shV x.v.id = (s : Int)) (hs16 : s < 16) (b : Bool) (hb : b = true ↔ Has (xs s) x.v.id) (E1 : Int) (hE1 : E1 = ckE (p s) b (xs s).length) (w : World) (hx : x.In w) (hpx : PX w0 w x.v) (hsr : (xs s).length ≤ 4 ∧ ∀ i j, i < j → j < (xs s).length → idF (xs s) i < idF (xs s) j) (h : RS w0 w M m n p R xs) : Calls Try.prog 24 #[.pointer (some ⟨M, 0, none⟩), x.V] w (AOPost x.keepR E1 (RAF w0 M m n p R xs s (p s) (plc x.v (xs s)) w) w) := by
 have HE1 := Hi hE1
 have HSS := Hi hs
 have HBB := Hi hb
 have HPX := Hi hpx
 have HSR := Hi hsr
 have HWS := Hi h.sz
 clear hE1 hs hb hpx hsr
 obtain ⟨cs, hcs⟩ : ∃ cs, cs = x.C.toArray := ⟨_, rfl⟩
 have A0 : Hid (KB9 (w.alloc (.cells cs 39)) w.heap.size x) := Hi ⟨hx.v.ok, by rw [hcs]; exact Bk.new rfl _ _⟩
 have B0 : Hid (Ex w (w.alloc (.cells cs 39))) := Hi (Ex.alloc _ _)
 have HS := Hi (h.ext B0.out)
 rw [show (Calls Try.prog 24 #[.pointer (some ⟨M, 0, none⟩), x.V] w) = (Calls Try.prog 24 #[.pointer (some ⟨M, 0, none⟩), .agg cs] w) by rw [hcs]; rfl]
 have HX := Hi hx
 clear hcs hx h
 have HK := Hi hk
 go_enter Try.func24, Try.ntmps24
 have HP := Hi HS.out
 go_wp2_with (first | ((with_reducible refine so0 ?_ ?_); (focus rfl)) | ((with_reducible refine so4 [39] ?_ ?_); (focus rfl)))
 (with_reducible refine ⟨?_⟩)
 change wpList _ _ _ _ _ (w.alloc (.cells cs 39))
 generalize hw1 : w.alloc (.cells cs 39) = w1 at *
 clear hw1
 obtain ⟨B, hB⟩ : ∃ B, B = w.heap.size := ⟨_, rfl⟩
 rw [← hB] at A0 ⊢
 have HB := Hi hB
 clear hB
 (with_reducible refine at_any ?_ ?_); (focus go_simp); refine fun K0 hK => ld_rk _ B x rfl rfl A0.out (hK _ _ ?_)
 clear hK
 go_wp2_with fail
 refine (rcheck_keep w0 M m n p R xs x HK.out s HSS.out hs16 b HBB.out E1 HE1.out w1 (HX.out.ext B0.out) HP.out).mono ?_
 rintro e w2 ⟨E, rfl, he1, he2, x2⟩
 replace A0 := Hi (A0.out.ext x2)
 replace B0 := Hi (Ex.trans B0.out x2)
 replace HP := Hi (HP.out.ext x2)
 have HE := Hi (And.intro he1 he2)
 clear he1 he2 x2 HS
 by_cases hE0 : E = 0
 rotate_left
 ·skip
  go_wp2_with fail
  go_ret
  exact Or.inl ⟨fun h => hE0 ((HE.out.1 h.1).trans h.2), ⟨E, rfl, hE0, HE.out.1, HE.out.2⟩, B0.out⟩
 skip
 subst hE0
 have HKR : Hid (x.keepR ∧ E1 = 0) := Hi (by
  have hr : x.keepR := Classical.byContradiction (fun h => by have := HE.out.2 h; omega)
  exact ⟨hr, (HE.out.1 hr).symm⟩)
 have qs0 : (0 : Int) ≤ (s : Int) := by omega
 have qs1 : (s : Int) < 16 := by omega
 have IDN := Hi HX.out.v.ok.idN
 have c0 : w2.cell? ⟨B, 0, none⟩ = some (.int .i64 1) := by rw [← HK.out]; exact A0.out.cells.1
 go_wp2_with (first | ((with_reducible refine so0 ?_ ?_); (focus rfl)) | ((with_reducible refine so4 [39] ?_ ?_); (focus rfl)))
 refine at9 (by go_simp) fun K0 hK => ld_rkid _ B x rfl rfl A0.out (hK _ _ ?_)
 clear hK
 go_wp2_with fail
 refine (Sm.rof_any x.v.id IDN.out w2).mono ?_
 rintro e w3 ⟨rfl, x3⟩
 rw [HSS.out]
 replace A0 := Hi (A0.out.ext x3)
 replace B0 := Hi (Ex.trans B0.out x3)
 replace HP := Hi (HP.out.ext x3)
 clear x3 c0
 obtain ⟨ad, cap, hR, hin, hcap⟩ := (HP.out.rw s hs16).inn
 have HR := Hi hR
 have HIN := Hi hin
 obtain ⟨nn, hn⟩ : ∃ n, n = (xs s).length := ⟨_, rfl⟩
 have HN := Hi hn
 clear hR hin hcap hn
 go_wp2_with fail
 have hS0 : ∀ (listed : Array Bool) (f : Nat → Value), (∀ i, listed.getD i false = false) → SP 99 11 98 16 w3 w3.heap.size (plc x.v (xs s)) ⟨0, 0, 0⟩ (RAF w0 M m n p R xs s (p s) (plc x.v (xs s)) w) listed f w3.drew := fun _ _ h0 => SP.start h0 (Below.refl w3.heap.size w3).drew
 obtain ⟨T, hT⟩ : ∃ T : List (Value → Prop), T = [(fun zz => zz = .pointer (some ⟨M, 0, none⟩)), (fun zz => zz = .int .i64 (s : Int)), (fun zz => zz = .pointer (some ⟨M, 0, none⟩)), (fun zz => zz = .int .i64 (s : Int)), (fun zz => zz = .pointer (some ⟨M, 0, none⟩)), (fun zz => zz = .pointer (some ⟨M, 2, none⟩)), (fun zz => zz = .pointer (some ⟨M, 2 + s * 4, none⟩)), (fun zz => zz = .pointer (some ⟨M, 2 + s * 4 + 3, none⟩)), (fun zz => zz = .slice ad nn cap), (fun zz => zz = .pointer (some ⟨B, 4, none⟩)), (fun zz => zz = x.v.V), (fun _ => True), (fun zz => zz = .pointer (some ⟨M, 0, none⟩)), (fun zz => zz = .pointer (some ⟨M, 2, none⟩)), (fun zz => zz = .pointer (some ⟨M, 2 + s * 4, none⟩)), (fun zz => zz = .pointer (some ⟨M, 2 + s * 4 + 3, none⟩)), (fun _ => True)] := ⟨_, rfl⟩
 refine wp_region_gen (JS T ([(16, 8), (16, 10), (16, 11)] : List (Nat × Nat)) (fun lz fz wz => SP 99 11 98 16 w3 w3.heap.size (plc x.v (xs s)) ⟨0, 0, 0⟩ (RAF w0 M m n p R xs s (p s) (plc x.v (xs s)) w) lz fz wz)) (by kernel_rfl) (by kernel_rfl) (by kernel_rfl) (fitB_spec (by kernel_rfl)) (fun listed f h => JS.start listed f h (hS0 listed f h)) ?_ ?_
 ·intro i o ho
  have hi : i < 17 := (Array.getElem?_eq_some_iff.1 ho).1
  have hi' : i = 0 ∨ i = 1 ∨ i = 2 ∨ i = 3 ∨ i = 4 ∨ i = 5 ∨ i = 6 ∨ i = 7 ∨ i = 8 ∨ i = 9 ∨ i = 10 ∨ i = 11 ∨ i = 12 ∨ i = 13 ∨ i = 14 ∨ i = 15 ∨ i = 16 := by omega
  clear hi
  rcases hi' with rfl | rfl | rfl | rfl | rfl | rfl | rfl | rfl | rfl | rfl | rfl | rfl | rfl | rfl | rfl | rfl | rfl
  all_goals (simp only [List.getElem?_toArray, List.getElem?_cons_zero, List.getElem?_cons_succ, Option.some.injEq] at ho; subst ho; intro listed f a w4 hJ hsz hls hun hdep hout hlat; first | (rw [if_pos (by rfl)]; intro K hK) | skip)
  ·have q0 := hout 0 ob
   exact wp_mw _ rfl q0 (hK _ _ (hJ.nx hls hT rfl rfl (SP.plain hJ.st (Ex.refl _) 0 (by decide)) nh))
  ·have q6 := hout 6 ob
   exact wp_mw _ rfl q6 (hK _ _ (hJ.nx hls hT rfl rfl (SP.plain hJ.st (Ex.refl _) 1 (by decide)) nh))
  ·have q0 := hout 0 ob
   exact wp_mw _ rfl q0 (hK _ _ (hJ.nx hls hT rfl rfl (SP.plain hJ.st (Ex.refl _) 2 (by decide)) nh))
  ·have q6 := hout 6 ob
   exact wp_mw _ rfl q6 (hK _ _ (hJ.nx hls hT rfl rfl (SP.plain hJ.st (Ex.refl _) 3 (by decide)) nh))
  ·have q23 := hJ.iq hT (hdep ⟨2, .data⟩ (by simp) rfl) rfl _ rfl _ rfl
   clear hsz hdep hout hlat
   go_simp
   exact hK _ _ (hJ.nx hls hT rfl rfl (SP.plain hJ.st (Ex.refl _) 4 (by decide)) nh)
  ·have q25 := hJ.iq hT (hdep ⟨4, .data⟩ (by simp) rfl) rfl _ rfl _ rfl
   clear hsz hdep hout hlat
   go_simp
   exact hK _ _ (hJ.nx hls hT rfl rfl (SP.plain hJ.st (Ex.refl _) 5 (by decide)) nh)
  ·have q26 := hJ.iq hT (hdep ⟨5, .data⟩ (by simp) rfl) rfl _ rfl _ rfl
   have q24 := hJ.iq hT (hdep ⟨3, .data⟩ (by simp) rfl) rfl _ rfl _ rfl
   clear hsz hdep hout hlat
   go_simp
   exact hK _ _ (hJ.nx hls hT rfl rfl (SP.plain hJ.st (Ex.refl _) 6 (by decide)) nh)
  ·have q27 := hJ.iq hT (hdep ⟨6, .data⟩ (by simp) rfl) rfl _ rfl _ rfl
   clear hsz hdep hout hlat
   go_simp
   exact hK _ _ (hJ.nx hls hT rfl rfl (SP.plain hJ.st (Ex.refl _) 7 (by decide)) nh)
  ·have q28 := hJ.iq hT (hdep ⟨7, .data⟩ (by simp) rfl) rfl _ rfl _ rfl
   have hcut : listed.getD 16 false = false := by
    cases hc : listed.getD 16 false with
    | false => rfl
    | true => exact absurd (hJ.ord (16, 8) (by simp) hc) (by rw [hun]; decide)
   have hst := hJ.st
   have hpre := hst.ex hcut
   have cc := (show w4.cell? ⟨M, 2 + s * 4 + 3, none⟩ = some (.slice ad nn cap) from by rw [((HP.out.ext hpre).cells hs16).2.2.2, HR.out, HN.out])
   clear hsz hdep hout hlat
   go_simp
   exact hK _ _ (hJ.nx hls hT rfl rfl (SP.plain hst (Ex.refl _) 8 (by decide)) nh)
  ·have q3 := hout 3 ob
   rw [gd9] at q3
   clear hsz hdep hout hlat
   go_simp
   exact hK _ _ (hJ.nx hls hT rfl rfl (SP.plain hJ.st (Ex.refl _) 9 (by decide)) nh)
  ·have q30 := hJ.is hT (hdep ⟨9, .data⟩ (by simp) rfl) rfl _ rfl _ rfl
   have hcut : listed.getD 16 false = false := by
    cases hc : listed.getD 16 false with
    | false => rfl
    | true => exact absurd (hJ.ord (16, 10) (by simp) hc) (by rw [hun]; decide)
   have hst := hJ.st
   have hpre := hst.ex hcut
   exact ld_rkv _ B x rfl q30 (A0.out.ext hpre) (hK _ _ (hJ.nx hls hT rfl rfl (SP.plain hst (Ex.refl _) 10 (by decide)) nh))
  ·have q29 := hJ.iq hT (hdep ⟨8, .data⟩ (by simp) rfl) rfl _ rfl _ rfl
   have q31 := hJ.iq hT (hdep ⟨10, .data⟩ (by simp) rfl) rfl _ rfl _ rfl
   have hcut : listed.getD 16 false = false := by
    cases hc : listed.getD 16 false with
    | false => rfl
    | true => exact absurd (hJ.ord (16, 11) (by simp) hc) (by rw [hun]; decide)
   have hst := hJ.st
   have hpre := hst.ex hcut
   clear hsz hdep hout hlat
   go_simp
   have HCP : Vp.In ad cap (xs s) w4 := HIN.out.ext hpre
   rw [HN.out]
   refine (place_any ad cap (xs s) HSR.out.1 HSR.out.2 x.v HX.out.v.ok w4 HCP).mono ?_
   rintro e wq ⟨v9, rfl, hr9, xq⟩
   exact hK _ _ (hJ.nx hls hT rfl (by exact trivial) (SP.sRow hst (by rw [hls]; decide) (by decide) hcut (out_getD (by rw [hls]; decide)) xq (rown_less hr9 (Below.size hpre))) nh)
  ·have q21 := hJ.iq hT (hdep ⟨0, .data⟩ (by simp) rfl) rfl _ rfl _ rfl
   clear hsz hdep hout hlat
   go_simp
   exact hK _ _ (hJ.nx hls hT rfl rfl (SP.plain hJ.st (Ex.refl _) 12 (by decide)) nh)
  ·have q33 := hJ.iq hT (hdep ⟨12, .data⟩ (by simp) rfl) rfl _ rfl _ rfl
   clear hsz hdep hout hlat
   go_simp
   exact hK _ _ (hJ.nx hls hT rfl rfl (SP.plain hJ.st (Ex.refl _) 13 (by decide)) nh)
  ·have q34 := hJ.iq hT (hdep ⟨13, .data⟩ (by simp) rfl) rfl _ rfl _ rfl
   have q22 := hJ.iq hT (hdep ⟨1, .data⟩ (by simp) rfl) rfl _ rfl _ rfl
   clear hsz hdep hout hlat
   go_simp
   exact hK _ _ (hJ.nx hls hT rfl rfl (SP.plain hJ.st (Ex.refl _) 14 (by decide)) nh)
  ·have q35 := hJ.iq hT (hdep ⟨14, .data⟩ (by simp) rfl) rfl _ rfl _ rfl
   clear hsz hdep hout hlat
   go_simp
   exact hK _ _ (hJ.nx hls hT rfl rfl (SP.plain hJ.st (Ex.refl _) 15 (by decide)) nh)
  have q36 := hJ.is hT (hdep ⟨15, .data⟩ (by simp) rfl) rfl _ rfl _ rfl
  have dd32 := hdep ⟨11, .data⟩ (by simp) rfl
  have q32 := dd32.2 _ rfl _ rfl
  have hl8 := (hdep ⟨8, .phase⟩ (by simp) rfl).1
  have hl10 := (hdep ⟨10, .phase⟩ (by simp) rfl).1
  have hl11 := (hdep ⟨11, .data⟩ (by simp) rfl).1
  have hord : ∀ x ∈ ([(16, 8), (16, 10), (16, 11)] : List (Nat × Nat)), x.1 = 16 → listed.getD x.2 false = true := (by intro x hx he; simp only [List.mem_cons, List.not_mem_nil, or_false] at hx; rcases hx with rfl | rfl | rfl; all_goals first | (exact absurd he (by decide)) | assumption)
  have hst := hJ.st
  have hl11 := (hdep ⟨11, .data⟩ (by simp) rfl).1
  have hpre := hst.ex hun
  have hrow := hst.row hun hl11
  obtain ⟨ad9, cap9, e9, _, _, _, _⟩ := own_rd hrow
  have HP4 := HP.out.ext hpre
  rw [e9] at q32
  refine wp_st1 _ _ M (2 + s * 4 + 3) _ rfl q36 q32 HP4.blk (by rw [srC_len]; omega) (by kernel_rfl) rfl (fun w9 hd ho => ?_)
  rw [srC_set m n p R (p s) _ _ hs16 (show 3 < 4 by decide) (show (partR (p s) (R s)).set 3 _ = partR (p s) _ from rfl), ← e9] at hd
  have hrw : RW w0 w4 (f 11) (plc x.v (xs s)) := RowOf.rw hrow (Nat.le_trans HWS.out (Below.size B0.out)) (fun y hy => by
   rcases plc_mem hy with rfl | h9
   ·exact HPX.out.ext HWS.out (Ex.trans B0.out hpre)
   ·obtain ⟨i9, hi9, e8⟩ := List.getElem_of_mem h9
    exact (HP4.rw s hs16).ins i9 y (by rw [List.getElem?_eq_getElem hi9, e8]))
  have hfn := HP4.fin hs16 (HP4.ok s hs16) ho hd hrw
  exact hK _ _ (hJ.nx hls hT rfl (by exact trivial) (SP.turn hst (by rw [hls]; decide) (by decide) ⟨f 11, hfn.1, ((Ex.trans B0.out hpre).kt HWS.out).trans hfn.2, Or.inr (fun g hg => Nat.le_trans (Below.size B0.out) (hrow.lt g hg).1)⟩) hord)
 intro listed f w4 hall hJ
 have hst := hJ.st
 simp only [putAll, Act.put, List.setIfInBounds_toArray, List.set_cons_zero, List.set_cons_succ, Nat.zero_add, Nat.reduceAdd]
 obtain ⟨wp, hfin, hxp⟩ := hst.fin (hall 16 (by simp))
 have HFIN := Hi hfin
 have HXP := Hi hxp
 clear hst hS0 hfin hxp
 clear hJ hall hT
 have HFF := Hi (show RAF w0 M m n p R xs s (p s) (plc x.v (xs s)) w w4 from by
  obtain ⟨v9, h1, h2, h3⟩ := HFIN.out
  exact ⟨v9, h1.ext HXP.out, h2.trans (HXP.out.kt h1.sz), h3⟩)
 go_wp2_with fail
 go_ret
 exact Or.inr ⟨HKR.out.1, HKR.out.2, rfl, HFF.out⟩
theorem rapply_out (w0 : World) (M : Nat) (m n : Int) (p : Nat → Pa) (R : Nat → Value) (xs : Nat → List Vt) (x : Rk) (hk : x.kind = 2) (E1 : Int) (hE1 : E1 = outE m n (p x.shard.toNat) x.tw x.ep) (w : World) (hx : x.In w) (h : RS w0 w M m n p R xs) : Calls Try.prog 24 #[.pointer (some ⟨M, 0, none⟩), x.V] w (AOPost x.outR E1 (RAF w0 M m n p R xs x.shard.toNat ⟨2, x.ep, x.tw⟩ (xs x.shard.toNat) w) w) := by
 have HE1 := Hi hE1
 have HWS := Hi h.sz
 clear hE1
 obtain ⟨cs, hcs⟩ : ∃ cs, cs = x.C.toArray := ⟨_, rfl⟩
 have A0 : Hid (KB9 (w.alloc (.cells cs 39)) w.heap.size x) := Hi ⟨hx.v.ok, by rw [hcs]; exact Bk.new rfl _ _⟩
 have B0 : Hid (Ex w (w.alloc (.cells cs 39))) := Hi (Ex.alloc _ _)
 have HS := Hi (h.ext B0.out)
 rw [show (Calls Try.prog 24 #[.pointer (some ⟨M, 0, none⟩), x.V] w) = (Calls Try.prog 24 #[.pointer (some ⟨M, 0, none⟩), .agg cs] w) by rw [hcs]; rfl]
 have HX := Hi hx
 clear hcs hx h
 have HK := Hi hk
 go_enter Try.func24, Try.ntmps24
 have HP := Hi HS.out
 go_wp2_with (first | ((with_reducible refine so0 ?_ ?_); (focus rfl)) | ((with_reducible refine so4 [39] ?_ ?_); (focus rfl)))
 (with_reducible refine ⟨?_⟩)
 change wpList _ _ _ _ _ (w.alloc (.cells cs 39))
 generalize hw1 : w.alloc (.cells cs 39) = w1 at *
 clear hw1
 obtain ⟨B, hB⟩ : ∃ B, B = w.heap.size := ⟨_, rfl⟩
 rw [← hB] at A0 ⊢
 have HB := Hi hB
 clear hB
 (with_reducible refine at_any ?_ ?_); (focus go_simp); refine fun K0 hK => ld_rk _ B x rfl rfl A0.out (hK _ _ ?_)
 clear hK
 go_wp2_with fail
 refine (rcheck_out w0 M m n p R xs x HK.out E1 HE1.out w1 (HX.out.ext B0.out) HP.out).mono ?_
 rintro e w2 ⟨E, rfl, he1, he2, x2⟩
 replace A0 := Hi (A0.out.ext x2)
 replace B0 := Hi (Ex.trans B0.out x2)
 replace HP := Hi (HP.out.ext x2)
 have HE := Hi (And.intro he1 he2)
 clear he1 he2 x2 HS
 by_cases hE0 : E = 0
 rotate_left
 ·skip
  go_wp2_with fail
  go_ret
  exact Or.inl ⟨fun h => hE0 ((HE.out.1 h.1).trans h.2), ⟨E, rfl, hE0, HE.out.1, HE.out.2⟩, B0.out⟩
 skip
 subst hE0
 have HKR : Hid (x.outR ∧ E1 = 0) := Hi (by
  have hr : x.outR := Classical.byContradiction (fun h => by have := HE.out.2 h; omega)
  exact ⟨hr, (HE.out.1 hr).symm⟩)
 obtain ⟨s, hs⟩ : ∃ s, s = x.shard.toNat := ⟨_, rfl⟩
 have HSH : Hid (x.shard = (s : Int)) := Hi (by have := HKR.out.1.1.1; rw [hs]; omega)
 have hs16 : s < 16 := by have h1 := HKR.out.1.1.1; have h2 := HKR.out.1.1.2.1; rw [hs]; omega
 have qs0 : (0 : Int) ≤ (s : Int) := by omega
 have qs1 : (s : Int) < 16 := by omega
 have HSN := Hi hs
 clear hs
 have c0 : w2.cell? ⟨B, 0, none⟩ = some (.int .i64 2) := by rw [← HK.out]; exact A0.out.cells.1
 go_wp2_with fail
 clear c0
 have w39 : Hid (KBM w2 B M x) := Hi ⟨A0.out, fun e => by have h1 := A0.out.2; have h2 := HP.out.blk; rw [e] at h1; unfold Bk at h1 h2; rw [h1] at h2; exact absurd (Obj.cells.inj (Option.some.inj h2)).2.1 (by decide)⟩
 have hS0 : ∀ (listed : Array Bool) (f : Nat → Value), (∀ i, listed.getD i false = false) → S3R 17 22 27 w2 M m n p R s 2 x.ep x.tw listed w2.drew := fun _ _ h0 => S3R.start h0 (HP.out.blk.ext (Below.refl w2.heap.size w2).drew) (Ex.md (show Ex w2 w2.drew from (Below.refl w2.heap.size w2).drew) (Nat.le_of_lt HP.out.blk.lt))
 obtain ⟨T, hT⟩ : ∃ T : List (Value → Prop), T = [(fun zz => zz = .pointer (some ⟨M, 0, none⟩)), (fun zz => zz = .pointer (some ⟨B, 1, none⟩)), (fun zz => zz = .int .i64 (s : Int)), (fun zz => zz = .pointer (some ⟨M, 0, none⟩)), (fun zz => zz = .pointer (some ⟨B, 1, none⟩)), (fun zz => zz = .int .i64 (s : Int)), (fun zz => zz = .pointer (some ⟨M, 0, none⟩)), (fun zz => zz = .pointer (some ⟨B, 1, none⟩)), (fun zz => zz = .int .i64 (s : Int)), (fun zz => zz = .pointer (some ⟨B, 3, none⟩)), (fun zz => zz = .int .u64 x.ep), (fun zz => zz = .pointer (some ⟨B, 2, none⟩)), (fun zz => zz = .int .i64 x.tw), (fun zz => zz = .pointer (some ⟨M, 0, none⟩)), (fun zz => zz = .pointer (some ⟨M, 2, none⟩)), (fun zz => zz = .pointer (some ⟨M, 2 + s * 4, none⟩)), (fun zz => zz = .pointer (some ⟨M, 2 + s * 4, none⟩)), (fun _ => True), (fun zz => zz = .pointer (some ⟨M, 0, none⟩)), (fun zz => zz = .pointer (some ⟨M, 2, none⟩)), (fun zz => zz = .pointer (some ⟨M, 2 + s * 4, none⟩)), (fun zz => zz = .pointer (some ⟨M, 2 + s * 4 + 1, none⟩)), (fun _ => True), (fun zz => zz = .pointer (some ⟨M, 0, none⟩)), (fun zz => zz = .pointer (some ⟨M, 2, none⟩)), (fun zz => zz = .pointer (some ⟨M, 2 + s * 4, none⟩)), (fun zz => zz = .pointer (some ⟨M, 2 + s * 4 + 2, none⟩)), (fun _ => True)] := ⟨_, rfl⟩
 refine wp_region_gen (JS T ([(22, 17), (27, 22)] : List (Nat × Nat)) (fun lz _ wz => S3R 17 22 27 w2 M m n p R s 2 x.ep x.tw lz wz)) (by kernel_rfl) (by kernel_rfl) (by kernel_rfl) (fitB_spec (by kernel_rfl)) (fun listed f h => JS.start listed f h (hS0 listed f h)) ?_ ?_
 ·intro i o ho
  have hi : i < 28 := (Array.getElem?_eq_some_iff.1 ho).1
  have hi' : i = 0 ∨ i = 1 ∨ i = 2 ∨ i = 3 ∨ i = 4 ∨ i = 5 ∨ i = 6 ∨ i = 7 ∨ i = 8 ∨ i = 9 ∨ i = 10 ∨ i = 11 ∨ i = 12 ∨ i = 13 ∨ i = 14 ∨ i = 15 ∨ i = 16 ∨ i = 17 ∨ i = 18 ∨ i = 19 ∨ i = 20 ∨ i = 21 ∨ i = 22 ∨ i = 23 ∨ i = 24 ∨ i = 25 ∨ i = 26 ∨ i = 27 := by omega
  clear hi
  rcases hi' with rfl | rfl | rfl | rfl | rfl | rfl | rfl | rfl | rfl | rfl | rfl | rfl | rfl | rfl | rfl | rfl | rfl | rfl | rfl | rfl | rfl | rfl | rfl | rfl | rfl | rfl | rfl | rfl
  all_goals (simp only [List.getElem?_toArray, List.getElem?_cons_zero, List.getElem?_cons_succ, Option.some.injEq] at ho; subst ho; intro listed f a w4 hJ hsz hls hun hdep hout hlat; first | (rw [if_pos (by rfl)]; intro K hK) | skip)
  ·have q0 := hout 0 ob
   exact wp_mw _ rfl q0 (hK _ _ (hJ.nx hls hT rfl rfl (S3R.plain hJ.st 0 (by decide)) nh))
  ·have q3 := hout 3 ob
   rw [gd9] at q3
   clear hsz hdep hout hlat
   go_simp
   exact hK _ _ (hJ.nx hls hT rfl rfl (S3R.plain hJ.st 1 (by decide)) nh)
  ·have q40 := hJ.iq hT (hdep ⟨1, .data⟩ (by simp) rfl) rfl _ rfl _ rfl
   have c9 := (show w4.cell? ⟨B, 1, none⟩ = some (.int .i64 (s : Int)) from by rw [← HSH.out]; exact (w39.out.bkm hJ.st.md).cells.2.1)
   clear hsz hdep hout hlat
   go_simp
   exact hK _ _ (hJ.nx hls hT rfl rfl (S3R.plain hJ.st 2 (by decide)) nh)
  ·have q0 := hout 0 ob
   exact wp_mw _ rfl q0 (hK _ _ (hJ.nx hls hT rfl rfl (S3R.plain hJ.st 3 (by decide)) nh))
  ·have q3 := hout 3 ob
   rw [gd9] at q3
   clear hsz hdep hout hlat
   go_simp
   exact hK _ _ (hJ.nx hls hT rfl rfl (S3R.plain hJ.st 4 (by decide)) nh)
  ·have q43 := hJ.iq hT (hdep ⟨4, .data⟩ (by simp) rfl) rfl _ rfl _ rfl
   have c9 := (show w4.cell? ⟨B, 1, none⟩ = some (.int .i64 (s : Int)) from by rw [← HSH.out]; exact (w39.out.bkm hJ.st.md).cells.2.1)
   clear hsz hdep hout hlat
   go_simp
   exact hK _ _ (hJ.nx hls hT rfl rfl (S3R.plain hJ.st 5 (by decide)) nh)
  ·have q0 := hout 0 ob
   exact wp_mw _ rfl q0 (hK _ _ (hJ.nx hls hT rfl rfl (S3R.plain hJ.st 6 (by decide)) nh))
  ·have q3 := hout 3 ob
   rw [gd9] at q3
   clear hsz hdep hout hlat
   go_simp
   exact hK _ _ (hJ.nx hls hT rfl rfl (S3R.plain hJ.st 7 (by decide)) nh)
  ·have q46 := hJ.iq hT (hdep ⟨7, .data⟩ (by simp) rfl) rfl _ rfl _ rfl
   have c9 := (show w4.cell? ⟨B, 1, none⟩ = some (.int .i64 (s : Int)) from by rw [← HSH.out]; exact (w39.out.bkm hJ.st.md).cells.2.1)
   clear hsz hdep hout hlat
   go_simp
   exact hK _ _ (hJ.nx hls hT rfl rfl (S3R.plain hJ.st 8 (by decide)) nh)
  ·have q3 := hout 3 ob
   rw [gd9] at q3
   clear hsz hdep hout hlat
   go_simp
   exact hK _ _ (hJ.nx hls hT rfl rfl (S3R.plain hJ.st 9 (by decide)) nh)
  ·have q48 := hJ.iq hT (hdep ⟨9, .data⟩ (by simp) rfl) rfl _ rfl _ rfl
   have c9 := (w39.out.bkm hJ.st.md).cells.2.2.2.1
   clear hsz hdep hout hlat
   go_simp
   exact hK _ _ (hJ.nx hls hT rfl rfl (S3R.plain hJ.st 10 (by decide)) nh)
  ·have q3 := hout 3 ob
   rw [gd9] at q3
   clear hsz hdep hout hlat
   go_simp
   exact hK _ _ (hJ.nx hls hT rfl rfl (S3R.plain hJ.st 11 (by decide)) nh)
  ·have q50 := hJ.iq hT (hdep ⟨11, .data⟩ (by simp) rfl) rfl _ rfl _ rfl
   have c9 := (w39.out.bkm hJ.st.md).cells.2.2.1
   clear hsz hdep hout hlat
   go_simp
   exact hK _ _ (hJ.nx hls hT rfl rfl (S3R.plain hJ.st 12 (by decide)) nh)
  ·have q39 := hJ.iq hT (hdep ⟨0, .data⟩ (by simp) rfl) rfl _ rfl _ rfl
   clear hsz hdep hout hlat
   go_simp
   exact hK _ _ (hJ.nx hls hT rfl rfl (S3R.plain hJ.st 13 (by decide)) nh)
  ·have q52 := hJ.iq hT (hdep ⟨13, .data⟩ (by simp) rfl) rfl _ rfl _ rfl
   clear hsz hdep hout hlat
   go_simp
   exact hK _ _ (hJ.nx hls hT rfl rfl (S3R.plain hJ.st 14 (by decide)) nh)
  ·have q53 := hJ.iq hT (hdep ⟨14, .data⟩ (by simp) rfl) rfl _ rfl _ rfl
   have q41 := hJ.iq hT (hdep ⟨2, .data⟩ (by simp) rfl) rfl _ rfl _ rfl
   clear hsz hdep hout hlat
   go_simp
   exact hK _ _ (hJ.nx hls hT rfl rfl (S3R.plain hJ.st 15 (by decide)) nh)
  ·have q54 := hJ.iq hT (hdep ⟨15, .data⟩ (by simp) rfl) rfl _ rfl _ rfl
   clear hsz hdep hout hlat
   go_simp
   exact hK _ _ (hJ.nx hls hT rfl rfl (S3R.plain hJ.st 16 (by decide)) nh)
  ·have q55 := hJ.is hT (hdep ⟨16, .data⟩ (by simp) rfl) rfl _ rfl _ rfl
   have hst := hJ.st
   refine wp_st1 _ _ M (2 + s * 4 + 0) (.int .i64 2) rfl q55 rfl hst.blk (by rw [srC_len]; omega) (by kernel_rfl) rfl (fun w9 hd ho => ?_)
   exact hK _ _ (hJ.nx hls hT rfl (by trivial) (S3R.s1 hst hs16 (by rw [hls]; decide) (by decide) (by decide) ho hd) nh)
  ·have q42 := hJ.iq hT (hdep ⟨3, .data⟩ (by simp) rfl) rfl _ rfl _ rfl
   clear hsz hdep hout hlat
   go_simp
   exact hK _ _ (hJ.nx hls hT rfl rfl (S3R.plain hJ.st 18 (by decide)) nh)
  ·have q56 := hJ.iq hT (hdep ⟨18, .data⟩ (by simp) rfl) rfl _ rfl _ rfl
   clear hsz hdep hout hlat
   go_simp
   exact hK _ _ (hJ.nx hls hT rfl rfl (S3R.plain hJ.st 19 (by decide)) nh)
  ·have q57 := hJ.iq hT (hdep ⟨19, .data⟩ (by simp) rfl) rfl _ rfl _ rfl
   have q44 := hJ.iq hT (hdep ⟨5, .data⟩ (by simp) rfl) rfl _ rfl _ rfl
   clear hsz hdep hout hlat
   go_simp
   exact hK _ _ (hJ.nx hls hT rfl rfl (S3R.plain hJ.st 20 (by decide)) nh)
  ·have q58 := hJ.iq hT (hdep ⟨20, .data⟩ (by simp) rfl) rfl _ rfl _ rfl
   clear hsz hdep hout hlat
   go_simp
   exact hK _ _ (hJ.nx hls hT rfl rfl (S3R.plain hJ.st 21 (by decide)) nh)
  ·have q59 := hJ.is hT (hdep ⟨21, .data⟩ (by simp) rfl) rfl _ rfl _ rfl
   have q49 := hJ.is hT (hdep ⟨10, .data⟩ (by simp) rfl) rfl _ rfl _ rfl
   have hl17 := (hdep ⟨17, .chain⟩ (by simp) rfl).1
   have hord : ∀ x ∈ ([(22, 17), (27, 22)] : List (Nat × Nat)), x.1 = 22 → listed.getD x.2 false = true := (by intro x hx he; simp only [List.mem_cons, List.not_mem_nil, or_false] at hx; rcases hx with rfl | rfl; all_goals first | (exact absurd he (by decide)) | assumption)
   have hst := hJ.st
   refine wp_st1 _ _ M (2 + s * 4 + 1) (.int .u64 x.ep) rfl q59 q49 hst.blk (by rw [srC_len]; omega) (by kernel_rfl) rfl (fun w9 hd ho => ?_)
   exact hK _ _ (hJ.nx hls hT rfl (by trivial) (S3R.s2 hst hs16 (by rw [hls]; decide) (by decide) (by decide) ho hd) hord)
  ·have q45 := hJ.iq hT (hdep ⟨6, .data⟩ (by simp) rfl) rfl _ rfl _ rfl
   clear hsz hdep hout hlat
   go_simp
   exact hK _ _ (hJ.nx hls hT rfl rfl (S3R.plain hJ.st 23 (by decide)) nh)
  ·have q60 := hJ.iq hT (hdep ⟨23, .data⟩ (by simp) rfl) rfl _ rfl _ rfl
   clear hsz hdep hout hlat
   go_simp
   exact hK _ _ (hJ.nx hls hT rfl rfl (S3R.plain hJ.st 24 (by decide)) nh)
  ·have q61 := hJ.iq hT (hdep ⟨24, .data⟩ (by simp) rfl) rfl _ rfl _ rfl
   have q47 := hJ.iq hT (hdep ⟨8, .data⟩ (by simp) rfl) rfl _ rfl _ rfl
   clear hsz hdep hout hlat
   go_simp
   exact hK _ _ (hJ.nx hls hT rfl rfl (S3R.plain hJ.st 25 (by decide)) nh)
  ·have q62 := hJ.iq hT (hdep ⟨25, .data⟩ (by simp) rfl) rfl _ rfl _ rfl
   clear hsz hdep hout hlat
   go_simp
   exact hK _ _ (hJ.nx hls hT rfl rfl (S3R.plain hJ.st 26 (by decide)) nh)
  have q63 := hJ.is hT (hdep ⟨26, .data⟩ (by simp) rfl) rfl _ rfl _ rfl
  have q51 := hJ.is hT (hdep ⟨12, .data⟩ (by simp) rfl) rfl _ rfl _ rfl
  have hl22 := (hdep ⟨22, .chain⟩ (by simp) rfl).1
  have hord : ∀ x ∈ ([(22, 17), (27, 22)] : List (Nat × Nat)), x.1 = 27 → listed.getD x.2 false = true := (by intro x hx he; simp only [List.mem_cons, List.not_mem_nil, or_false] at hx; rcases hx with rfl | rfl; all_goals first | (exact absurd he (by decide)) | assumption)
  have hst := hJ.st
  refine wp_st1 _ _ M (2 + s * 4 + 2) (.int .i64 x.tw) rfl q63 q51 hst.blk (by rw [srC_len]; omega) (by kernel_rfl) rfl (fun w9 hd ho => ?_)
  exact hK _ _ (hJ.nx hls hT rfl (by trivial) (S3R.s3 hst hs16 (by rw [hls]; decide) (by decide) (by decide) ho hd) hord)
 intro listed f w4 hall hJ
 have hst := hJ.st
 simp only [putAll, Act.put, List.setIfInBounds_toArray, List.set_cons_zero, List.set_cons_succ, Nat.zero_add, Nat.reduceAdd]
 have hb9 := hst.blk
 rw [hall 17 (by simp), hall 22 (by simp), hall 27 (by simp)] at hb9
 have HMD := Hi hst.md
 have HFF : Hid (RAF w0 M m n p R xs s ⟨2, x.ep, x.tw⟩ (xs s) w w4) := Hi (by
  have kt : Kt [124] w0.heap.size w2 w4 := Kt.md HMD.out HP.out.lo HP.out.blk (List.mem_singleton.2 rfl)
  refine ⟨R s, HP.out.own kt (by rw [updF_id]; exact hb9) (fun i hi => Or.inl ⟨by rw [updF_id], by rw [updF_id]⟩) (fun i hi => ?_), (B0.out.kt HWS.out).trans kt, Or.inl rfl⟩
  by_cases e : i = s
  ·rw [e, updF_same]; exact ⟨by unfold i64; simp only; omega, HX.out.ep, HX.out.tw⟩
  ·rw [updF_ne _ _ e]; exact HP.out.ok i hi)
 clear hst hS0 hb9 HMD
 clear hJ hall hT
 go_wp2_with fail
 go_ret
 exact Or.inr ⟨HKR.out.1, HKR.out.2, rfl, by rw [← HSN.out]; exact HFF.out⟩
theorem rapply_in (w0 : World) (M : Nat) (m n : Int) (p : Nat → Pa) (R : Nat → Value) (xs : Nat → List Vt) (x : Rk) (hk : x.kind = 3) (E1 : Int) (hE1 : AllOf x.l (x.shard.toNat : Int) → E1 = inE (p x.shard.toNat) x.ep) (hE2 : ¬ AllOf x.l (x.shard.toNat : Int) → E1 = 1) (w : World) (hx : x.In w) (hpx : x.inR → ∀ y ∈ x.l, PX w0 w y) (h : RS w0 w M m n p R xs) : Calls Try.prog 24 #[.pointer (some ⟨M, 0, none⟩), x.V] w (AOPost x.inR E1 (RAF w0 M m n p R xs x.shard.toNat ⟨1, x.ep, 0⟩ x.l w) w) := by
 have HE1 := Hi hE1
 have HE2 := Hi hE2
 have HWS := Hi h.sz
 have HPX := Hi hpx
 clear hE1 hE2 hpx
 obtain ⟨cs, hcs⟩ : ∃ cs, cs = x.C.toArray := ⟨_, rfl⟩
 have A0 : Hid (KB9 (w.alloc (.cells cs 39)) w.heap.size x) := Hi ⟨hx.v.ok, by rw [hcs]; exact Bk.new rfl _ _⟩
 have B0 : Hid (Ex w (w.alloc (.cells cs 39))) := Hi (Ex.alloc _ _)
 have HS := Hi (h.ext B0.out)
 rw [show (Calls Try.prog 24 #[.pointer (some ⟨M, 0, none⟩), x.V] w) = (Calls Try.prog 24 #[.pointer (some ⟨M, 0, none⟩), .agg cs] w) by rw [hcs]; rfl]
 have HX := Hi hx
 clear hcs hx h
 have HK := Hi hk
 go_enter Try.func24, Try.ntmps24
 have HP := Hi HS.out
 go_wp2_with (first | ((with_reducible refine so0 ?_ ?_); (focus rfl)) | ((with_reducible refine so4 [39] ?_ ?_); (focus rfl)))
 (with_reducible refine ⟨?_⟩)
 change wpList _ _ _ _ _ (w.alloc (.cells cs 39))
 generalize hw1 : w.alloc (.cells cs 39) = w1 at *
 clear hw1
 obtain ⟨B, hB⟩ : ∃ B, B = w.heap.size := ⟨_, rfl⟩
 rw [← hB] at A0 ⊢
 have HB := Hi hB
 clear hB
 (with_reducible refine at_any ?_ ?_); (focus go_simp); refine fun K0 hK => ld_rk _ B x rfl rfl A0.out (hK _ _ ?_)
 clear hK
 go_wp2_with fail
 refine (rcheck_in w0 M m n p R xs x HK.out E1 HE1.out HE2.out w1 (HX.out.ext B0.out) HP.out).mono ?_
 rintro e w2 ⟨E, rfl, he1, he2, x2⟩
 replace A0 := Hi (A0.out.ext x2)
 replace B0 := Hi (Ex.trans B0.out x2)
 replace HP := Hi (HP.out.ext x2)
 have HE := Hi (And.intro he1 he2)
 clear he1 he2 x2 HS
 by_cases hE0 : E = 0
 rotate_left
 ·skip
  go_wp2_with fail
  go_ret
  exact Or.inl ⟨fun h => hE0 ((HE.out.1 h.1).trans h.2), ⟨E, rfl, hE0, HE.out.1, HE.out.2⟩, B0.out⟩
 skip
 subst hE0
 have HKR : Hid (x.inR ∧ E1 = 0) := Hi (by
  have hr : x.inR := Classical.byContradiction (fun h => by have := HE.out.2 h; omega)
  exact ⟨hr, (HE.out.1 hr).symm⟩)
 obtain ⟨s, hs⟩ : ∃ s, s = x.shard.toNat := ⟨_, rfl⟩
 have HSH : Hid (x.shard = (s : Int)) := Hi (by have := HKR.out.1.1.1; rw [hs]; omega)
 have hs16 : s < 16 := by have h1 := HKR.out.1.1.1; have h2 := HKR.out.1.1.2.1; rw [hs]; omega
 have qs0 : (0 : Int) ≤ (s : Int) := by omega
 have qs1 : (s : Int) < 16 := by omega
 have HSN := Hi hs
 clear hs
 have c0 : w2.cell? ⟨B, 0, none⟩ = some (.int .i64 3) := by rw [← HK.out]; exact A0.out.cells.1
 go_wp2_with fail
 clear c0
 have HXI := Hi (HX.out.ext B0.out)
 have hS0 : ∀ (listed : Array Bool) (f : Nat → Value), (∀ i, listed.getD i false = false) → SP 5 8 9 13 w2 w2.heap.size x.l ⟨1, x.ep, 0⟩ (RAF w0 M m n p R xs s ⟨1, x.ep, 0⟩ x.l w) listed f w2.drew := fun _ _ h0 => SP.start h0 (Below.refl w2.heap.size w2).drew
 obtain ⟨T, hT⟩ : ∃ T : List (Value → Prop), T = [(fun zz => zz = .pointer (some ⟨M, 0, none⟩)), (fun zz => zz = .pointer (some ⟨B, 1, none⟩)), (fun zz => zz = .int .i64 (s : Int)), (fun zz => zz = .pointer (some ⟨B, 3, none⟩)), (fun zz => zz = .int .u64 x.ep), (fun _ => True), (fun zz => zz = .pointer (some ⟨B, 46, none⟩)), (fun zz => zz = .slice x.ad x.l.length x.cap), (fun _ => True), (fun _ => True), (fun zz => zz = .pointer (some ⟨M, 0, none⟩)), (fun zz => zz = .pointer (some ⟨M, 2, none⟩)), (fun zz => zz = .pointer (some ⟨M, 2 + s * 4, none⟩)), (fun _ => True)] := ⟨_, rfl⟩
 refine wp_region_gen (JS T ([(13, 2), (13, 4), (13, 5), (13, 7), (13, 8), (13, 9), (9, 8)] : List (Nat × Nat)) (fun lz fz wz => SP 5 8 9 13 w2 w2.heap.size x.l ⟨1, x.ep, 0⟩ (RAF w0 M m n p R xs s ⟨1, x.ep, 0⟩ x.l w) lz fz wz)) (by kernel_rfl) (by kernel_rfl) (by kernel_rfl) (fitB_spec (by kernel_rfl)) (fun listed f h => JS.start listed f h (hS0 listed f h)) ?_ ?_
 ·intro i o ho
  have hi : i < 14 := (Array.getElem?_eq_some_iff.1 ho).1
  have hi' : i = 0 ∨ i = 1 ∨ i = 2 ∨ i = 3 ∨ i = 4 ∨ i = 5 ∨ i = 6 ∨ i = 7 ∨ i = 8 ∨ i = 9 ∨ i = 10 ∨ i = 11 ∨ i = 12 ∨ i = 13 := by omega
  clear hi
  rcases hi' with rfl | rfl | rfl | rfl | rfl | rfl | rfl | rfl | rfl | rfl | rfl | rfl | rfl | rfl
  all_goals (simp only [List.getElem?_toArray, List.getElem?_cons_zero, List.getElem?_cons_succ, Option.some.injEq] at ho; subst ho; intro listed f a w4 hJ hsz hls hun hdep hout hlat; first | (rw [if_pos (by rfl)]; intro K hK) | skip)
  ·have q0 := hout 0 ob
   exact wp_mw _ rfl q0 (hK _ _ (hJ.nx hls hT rfl rfl (SP.plain hJ.st (Ex.refl _) 0 (by decide)) nh))
  ·have q3 := hout 3 ob
   rw [gd9] at q3
   clear hsz hdep hout hlat
   go_simp
   exact hK _ _ (hJ.nx hls hT rfl rfl (SP.plain hJ.st (Ex.refl _) 1 (by decide)) nh)
  ·have q67 := hJ.iq hT (hdep ⟨1, .data⟩ (by simp) rfl) rfl _ rfl _ rfl
   have hcut : listed.getD 13 false = false := by
    cases hc : listed.getD 13 false with
    | false => rfl
    | true => exact absurd (hJ.ord (13, 2) (by simp) hc) (by rw [hun]; decide)
   have hst := hJ.st
   have hpre := hst.ex hcut
   have cc := (show w4.cell? ⟨B, 1, none⟩ = some (.int .i64 (s : Int)) from by rw [← HSH.out]; exact (A0.out.ext hpre).cells.2.1)
   clear hsz hdep hout hlat
   go_simp
   exact hK _ _ (hJ.nx hls hT rfl rfl (SP.plain hst (Ex.refl _) 2 (by decide)) nh)
  ·have q3 := hout 3 ob
   rw [gd9] at q3
   clear hsz hdep hout hlat
   go_simp
   exact hK _ _ (hJ.nx hls hT rfl rfl (SP.plain hJ.st (Ex.refl _) 3 (by decide)) nh)
  ·have q69 := hJ.iq hT (hdep ⟨3, .data⟩ (by simp) rfl) rfl _ rfl _ rfl
   have hcut : listed.getD 13 false = false := by
    cases hc : listed.getD 13 false with
    | false => rfl
    | true => exact absurd (hJ.ord (13, 4) (by simp) hc) (by rw [hun]; decide)
   have hst := hJ.st
   have hpre := hst.ex hcut
   have cc := (A0.out.ext hpre).cells.2.2.2.1
   clear hsz hdep hout hlat
   go_simp
   exact hK _ _ (hJ.nx hls hT rfl rfl (SP.plain hst (Ex.refl _) 4 (by decide)) nh)
  ·have hcut : listed.getD 13 false = false := by
    cases hc : listed.getD 13 false with
    | false => rfl
    | true => exact absurd (hJ.ord (13, 5) (by simp) hc) (by rw [hun]; decide)
   have hst := hJ.st
   clear hsz hdep hout hlat
   go_simp
   exact hK _ _ (hJ.nx hls hT rfl (by exact trivial) (SP.sEmp hst (by decide) hcut (Nat.le_refl _)) nh)
  ·have q3 := hout 3 ob
   rw [gd9] at q3
   clear hsz hdep hout hlat
   go_simp
   exact hK _ _ (hJ.nx hls hT rfl rfl (SP.plain hJ.st (Ex.refl _) 6 (by decide)) nh)
  ·have q72 := hJ.iq hT (hdep ⟨6, .data⟩ (by simp) rfl) rfl _ rfl _ rfl
   have hcut : listed.getD 13 false = false := by
    cases hc : listed.getD 13 false with
    | false => rfl
    | true => exact absurd (hJ.ord (13, 7) (by simp) hc) (by rw [hun]; decide)
   have hst := hJ.st
   have hpre := hst.ex hcut
   have cc := (A0.out.ext hpre).cells.2.2.2.2
   clear hsz hdep hout hlat
   go_simp
   exact hK _ _ (hJ.nx hls hT rfl rfl (SP.plain hst (Ex.refl _) 7 (by decide)) nh)
  ·have dd71 := hdep ⟨5, .data⟩ (by simp) rfl
   have q71 := dd71.2 _ rfl _ rfl
   have q73 := hJ.is hT (hdep ⟨7, .data⟩ (by simp) rfl) rfl _ rfl _ rfl
   have hcut : listed.getD 13 false = false := by
    cases hc : listed.getD 13 false with
    | false => rfl
    | true => exact absurd (hJ.ord (13, 8) (by simp) hc) (by rw [hun]; decide)
   have hnc9 : listed.getD 9 false = false := by
    cases hc : listed.getD 9 false with
    | false => rfl
    | true => exact absurd (hJ.ord (9, 8) (by simp) hc) (by rw [hun]; decide)
   have hst := hJ.st
   have hpre := hst.ex hcut
   have hl5 := (hdep ⟨5, .data⟩ (by simp) rfl).1
   have hemp := hst.emp hcut hl5 hun
   have HI9 := HXI.out.ext hpre
   have hl4 := HKR.out.1.2.2.1
   exact wp_rd0 _ _ 37 36 zeroVt.V 42 96 rfl Try.underlying37 Try.infoVt rfl (by decide) w2.heap.size (f 5) q71 hemp (Below.size hpre) x.ad x.l.length x.cap (x.l.flatMap Vt.C) q73 (gflat_rd Vt.C 42 (by decide) (fun y hy => by obtain ⟨i9, hi9, e8⟩ := List.getElem_of_mem hy; exact Vt.len (HI9.inn.ok i9 y (by rw [List.getElem?_eq_getElem hi9, e8]))) HI9.inn.read) HI9.inn.len HI9.inn.nil (vflat_one x.l) (by omega) (by omega) (fun v9 wq r1 r2 => hK _ _ (hJ.nx hls hT rfl (by exact trivial) (SP.sRow hst (by rw [hls]; decide) (by decide) hcut hnc9 r2 r1) nh))
  ·have q70 := hJ.is hT (hdep ⟨4, .data⟩ (by simp) rfl) rfl _ rfl _ rfl
   have dd74 := hdep ⟨8, .data⟩ (by simp) rfl
   have q74 := dd74.2 _ rfl _ rfl
   have hl8 := (hdep ⟨8, .data⟩ (by simp) rfl).1
   have hord : ∀ x ∈ ([(13, 2), (13, 4), (13, 5), (13, 7), (13, 8), (13, 9), (9, 8)] : List (Nat × Nat)), x.1 = 9 → listed.getD x.2 false = true := (by intro x hx he; simp only [List.mem_cons, List.not_mem_nil, or_false] at hx; rcases hx with rfl | rfl | rfl | rfl | rfl | rfl | rfl; all_goals first | (exact absurd he (by decide)) | assumption)
   have hcut : listed.getD 13 false = false := by
    cases hc : listed.getD 13 false with
    | false => rfl
    | true => exact absurd (hJ.ord (13, 9) (by simp) hc) (by rw [hun]; decide)
   have hst := hJ.st
   have hl8 := (hdep ⟨8, .data⟩ (by simp) rfl).1
   obtain ⟨ad9, cap9, e9, _, _, _, _⟩ := own_rd (hst.row hcut hl8)
   rw [e9] at q74
   refine wp_build _ _ rfl (partR ⟨1, x.ep, 0⟩ (.slice ad9 x.l.length cap9)).toArray ?_ (hK _ _ (hJ.nx hls hT rfl (by exact trivial) (SP.sBld hst (by decide) (by rw [e9])) hord))
   simp only [List.map_cons, List.map_nil, show a.eval (.tmp 70) = _ from q70, show a.eval (.tmp 74) = _ from q74]
   exact built_rp1 x.ep ad9 x.l.length cap9
  ·have q66 := hJ.iq hT (hdep ⟨0, .data⟩ (by simp) rfl) rfl _ rfl _ rfl
   clear hsz hdep hout hlat
   go_simp
   exact hK _ _ (hJ.nx hls hT rfl rfl (SP.plain hJ.st (Ex.refl _) 10 (by decide)) nh)
  ·have q76 := hJ.iq hT (hdep ⟨10, .data⟩ (by simp) rfl) rfl _ rfl _ rfl
   clear hsz hdep hout hlat
   go_simp
   exact hK _ _ (hJ.nx hls hT rfl rfl (SP.plain hJ.st (Ex.refl _) 11 (by decide)) nh)
  ·have q77 := hJ.iq hT (hdep ⟨11, .data⟩ (by simp) rfl) rfl _ rfl _ rfl
   have q68 := hJ.iq hT (hdep ⟨2, .data⟩ (by simp) rfl) rfl _ rfl _ rfl
   clear hsz hdep hout hlat
   go_simp
   exact hK _ _ (hJ.nx hls hT rfl rfl (SP.plain hJ.st (Ex.refl _) 12 (by decide)) nh)
  have q78 := hJ.is hT (hdep ⟨12, .data⟩ (by simp) rfl) rfl _ rfl _ rfl
  have dd75 := hdep ⟨9, .data⟩ (by simp) rfl
  have q75 := dd75.2 _ rfl _ rfl
  have hl2 := (hdep ⟨2, .phase⟩ (by simp) rfl).1
  have hl4 := (hdep ⟨4, .phase⟩ (by simp) rfl).1
  have hl5 := (hdep ⟨5, .phase⟩ (by simp) rfl).1
  have hl7 := (hdep ⟨7, .phase⟩ (by simp) rfl).1
  have hl8 := (hdep ⟨8, .chain⟩ (by simp) rfl).1
  have hl9 := (hdep ⟨9, .data⟩ (by simp) rfl).1
  have hord : ∀ x ∈ ([(13, 2), (13, 4), (13, 5), (13, 7), (13, 8), (13, 9), (9, 8)] : List (Nat × Nat)), x.1 = 13 → listed.getD x.2 false = true := (by intro x hx he; simp only [List.mem_cons, List.not_mem_nil, or_false] at hx; rcases hx with rfl | rfl | rfl | rfl | rfl | rfl | rfl; all_goals first | (exact absurd he (by decide)) | assumption)
  have hst := hJ.st
  have hl8 := (hdep ⟨8, .chain⟩ (by simp) rfl).1
  have hl9 := (hdep ⟨9, .data⟩ (by simp) rfl).1
  have hpre := hst.ex hun
  have hrow := hst.row hun hl8
  have hbl := hst.bld hl9
  obtain ⟨ad9, cap9, e9, _, _, _, _⟩ := own_rd hrow
  have HP4 := HP.out.ext hpre
  rw [hbl, e9] at q75
  refine wp_stp (C := srC m n p R) (partR ⟨1, x.ep, 0⟩ (.slice ad9 x.l.length cap9)) _ _ M (2 + s * 4) rfl q78 q75 HP4.blk (by rw [srC_len]; show 2 + s * 4 + 4 ≤ 66; omega) (by rw [Try.sizeRP]; rfl) (partR_ones _ _ _ _) (fun w9 hd ho => ?_)
  rw [srC_part m n p R ⟨1, x.ep, 0⟩ (.slice ad9 x.l.length cap9) hs16, ← e9] at hd
  have hrw : RW w0 w4 (f 8) x.l := RowOf.rw hrow (Nat.le_trans HWS.out (Below.size B0.out)) (fun y hy => (HPX.out HKR.out.1 y hy).ext HWS.out (Ex.trans B0.out hpre))
  have hfn := HP4.fin hs16 ⟨by unfold i64; simp only; omega, HX.out.ep, by unfold i64; simp only; omega⟩ ho hd hrw
  exact hK _ _ (hJ.nx hls hT rfl (by exact trivial) (SP.turn hst (by rw [hls]; decide) (by decide) ⟨f 8, hfn.1, ((Ex.trans B0.out hpre).kt HWS.out).trans hfn.2, Or.inr (fun g hg => Nat.le_trans (Below.size B0.out) (hrow.lt g hg).1)⟩) hord)
 intro listed f w4 hall hJ
 have hst := hJ.st
 simp only [putAll, Act.put, List.setIfInBounds_toArray, List.set_cons_zero, List.set_cons_succ, Nat.zero_add, Nat.reduceAdd]
 obtain ⟨wp, hfin, hxp⟩ := hst.fin (hall 13 (by simp))
 have HFIN := Hi hfin
 have HXP := Hi hxp
 clear hst hS0 hfin hxp
 clear hJ hall hT
 have HFF := Hi (show RAF w0 M m n p R xs s ⟨1, x.ep, 0⟩ x.l w w4 from by
  obtain ⟨v9, h1, h2, h3⟩ := HFIN.out
  exact ⟨v9, h1.ext HXP.out, h2.trans (HXP.out.kt h1.sz), h3⟩)
 go_wp2_with fail
 go_ret
 exact Or.inr ⟨HKR.out.1, HKR.out.2, rfl, by rw [← HSN.out]; exact HFF.out⟩
theorem rapply_done (w0 : World) (M : Nat) (m n : Int) (p : Nat → Pa) (R : Nat → Value) (xs : Nat → List Vt) (x : Rk) (hk : x.kind = 4) (E1 : Int) (hE1 : E1 = if (p x.shard.toNat).role = 2 ∧ (p x.shard.toNat).ep = x.ep then 0 else 26) (w : World) (hx : x.In w) (h : RS w0 w M m n p R xs) : Calls Try.prog 24 #[.pointer (some ⟨M, 0, none⟩), x.V] w (AOPost x.doneR E1 (RAF w0 M m n p R xs x.shard.toNat ⟨0, x.ep, 0⟩ [] w) w) := by
 have HE1 := Hi hE1
 have HWS := Hi h.sz
 clear hE1
 obtain ⟨cs, hcs⟩ : ∃ cs, cs = x.C.toArray := ⟨_, rfl⟩
 have A0 : Hid (KB9 (w.alloc (.cells cs 39)) w.heap.size x) := Hi ⟨hx.v.ok, by rw [hcs]; exact Bk.new rfl _ _⟩
 have B0 : Hid (Ex w (w.alloc (.cells cs 39))) := Hi (Ex.alloc _ _)
 have HS := Hi (h.ext B0.out)
 rw [show (Calls Try.prog 24 #[.pointer (some ⟨M, 0, none⟩), x.V] w) = (Calls Try.prog 24 #[.pointer (some ⟨M, 0, none⟩), .agg cs] w) by rw [hcs]; rfl]
 have HX := Hi hx
 clear hcs hx h
 have HK := Hi hk
 go_enter Try.func24, Try.ntmps24
 have HP := Hi HS.out
 go_wp2_with (first | ((with_reducible refine so0 ?_ ?_); (focus rfl)) | ((with_reducible refine so4 [39] ?_ ?_); (focus rfl)))
 (with_reducible refine ⟨?_⟩)
 change wpList _ _ _ _ _ (w.alloc (.cells cs 39))
 generalize hw1 : w.alloc (.cells cs 39) = w1 at *
 clear hw1
 obtain ⟨B, hB⟩ : ∃ B, B = w.heap.size := ⟨_, rfl⟩
 rw [← hB] at A0 ⊢
 have HB := Hi hB
 clear hB
 (with_reducible refine at_any ?_ ?_); (focus go_simp); refine fun K0 hK => ld_rk _ B x rfl rfl A0.out (hK _ _ ?_)
 clear hK
 go_wp2_with fail
 refine (rcheck_done w0 M m n p R xs x HK.out E1 HE1.out w1 (HX.out.ext B0.out) HP.out).mono ?_
 rintro e w2 ⟨E, rfl, he1, he2, x2⟩
 replace A0 := Hi (A0.out.ext x2)
 replace B0 := Hi (Ex.trans B0.out x2)
 replace HP := Hi (HP.out.ext x2)
 have HE := Hi (And.intro he1 he2)
 clear he1 he2 x2 HS
 by_cases hE0 : E = 0
 rotate_left
 ·skip
  go_wp2_with fail
  go_ret
  exact Or.inl ⟨fun h => hE0 ((HE.out.1 h.1).trans h.2), ⟨E, rfl, hE0, HE.out.1, HE.out.2⟩, B0.out⟩
 skip
 subst hE0
 have HKR : Hid (x.doneR ∧ E1 = 0) := Hi (by
  have hr : x.doneR := Classical.byContradiction (fun h => by have := HE.out.2 h; omega)
  exact ⟨hr, (HE.out.1 hr).symm⟩)
 obtain ⟨s, hs⟩ : ∃ s, s = x.shard.toNat := ⟨_, rfl⟩
 have HSH : Hid (x.shard = (s : Int)) := Hi (by have := HKR.out.1.1.1; rw [hs]; omega)
 have hs16 : s < 16 := by have h1 := HKR.out.1.1.1; have h2 := HKR.out.1.1.2.1; rw [hs]; omega
 have qs0 : (0 : Int) ≤ (s : Int) := by omega
 have qs1 : (s : Int) < 16 := by omega
 have HSN := Hi hs
 clear hs
 have c0 : w2.cell? ⟨B, 0, none⟩ = some (.int .i64 4) := by rw [← HK.out]; exact A0.out.cells.1
 go_wp2_with fail
 clear c0
 have hS0 : ∀ (listed : Array Bool) (f : Nat → Value), (∀ i, listed.getD i false = false) → SP 96 97 98 9 w2 w2.heap.size [] ⟨0, x.ep, 0⟩ (RAF w0 M m n p R xs s ⟨0, x.ep, 0⟩ [] w) listed f w2.drew := fun _ _ h0 => SP.start h0 (Below.refl w2.heap.size w2).drew
 obtain ⟨T, hT⟩ : ∃ T : List (Value → Prop), T = [(fun zz => zz = .pointer (some ⟨M, 0, none⟩)), (fun zz => zz = .pointer (some ⟨B, 1, none⟩)), (fun zz => zz = .int .i64 (s : Int)), (fun zz => zz = .pointer (some ⟨B, 3, none⟩)), (fun zz => zz = .int .u64 x.ep), (fun zz => zz = .agg (partR ⟨0, x.ep, 0⟩ (.slice none 0 0)).toArray), (fun zz => zz = .pointer (some ⟨M, 0, none⟩)), (fun zz => zz = .pointer (some ⟨M, 2, none⟩)), (fun zz => zz = .pointer (some ⟨M, 2 + s * 4, none⟩)), (fun _ => True)] := ⟨_, rfl⟩
 refine wp_region_gen (JS T ([(9, 2), (9, 4), (9, 5)] : List (Nat × Nat)) (fun lz fz wz => SP 96 97 98 9 w2 w2.heap.size [] ⟨0, x.ep, 0⟩ (RAF w0 M m n p R xs s ⟨0, x.ep, 0⟩ [] w) lz fz wz)) (by kernel_rfl) (by kernel_rfl) (by kernel_rfl) (fitB_spec (by kernel_rfl)) (fun listed f h => JS.start listed f h (hS0 listed f h)) ?_ ?_
 ·intro i o ho
  have hi : i < 10 := (Array.getElem?_eq_some_iff.1 ho).1
  have hi' : i = 0 ∨ i = 1 ∨ i = 2 ∨ i = 3 ∨ i = 4 ∨ i = 5 ∨ i = 6 ∨ i = 7 ∨ i = 8 ∨ i = 9 := by omega
  clear hi
  rcases hi' with rfl | rfl | rfl | rfl | rfl | rfl | rfl | rfl | rfl | rfl
  all_goals (simp only [List.getElem?_toArray, List.getElem?_cons_zero, List.getElem?_cons_succ, Option.some.injEq] at ho; subst ho; intro listed f a w4 hJ hsz hls hun hdep hout hlat; first | (rw [if_pos (by rfl)]; intro K hK) | skip)
  ·have q0 := hout 0 ob
   exact wp_mw _ rfl q0 (hK _ _ (hJ.nx hls hT rfl rfl (SP.plain hJ.st (Ex.refl _) 0 (by decide)) nh))
  ·have q3 := hout 3 ob
   rw [gd9] at q3
   clear hsz hdep hout hlat
   go_simp
   exact hK _ _ (hJ.nx hls hT rfl rfl (SP.plain hJ.st (Ex.refl _) 1 (by decide)) nh)
  ·have q82 := hJ.iq hT (hdep ⟨1, .data⟩ (by simp) rfl) rfl _ rfl _ rfl
   have hcut : listed.getD 9 false = false := by
    cases hc : listed.getD 9 false with
    | false => rfl
    | true => exact absurd (hJ.ord (9, 2) (by simp) hc) (by rw [hun]; decide)
   have hst := hJ.st
   have hpre := hst.ex hcut
   have cc := (show w4.cell? ⟨B, 1, none⟩ = some (.int .i64 (s : Int)) from by rw [← HSH.out]; exact (A0.out.ext hpre).cells.2.1)
   clear hsz hdep hout hlat
   go_simp
   exact hK _ _ (hJ.nx hls hT rfl rfl (SP.plain hst (Ex.refl _) 2 (by decide)) nh)
  ·have q3 := hout 3 ob
   rw [gd9] at q3
   clear hsz hdep hout hlat
   go_simp
   exact hK _ _ (hJ.nx hls hT rfl rfl (SP.plain hJ.st (Ex.refl _) 3 (by decide)) nh)
  ·have q84 := hJ.iq hT (hdep ⟨3, .data⟩ (by simp) rfl) rfl _ rfl _ rfl
   have hcut : listed.getD 9 false = false := by
    cases hc : listed.getD 9 false with
    | false => rfl
    | true => exact absurd (hJ.ord (9, 4) (by simp) hc) (by rw [hun]; decide)
   have hst := hJ.st
   have hpre := hst.ex hcut
   have cc := (A0.out.ext hpre).cells.2.2.2.1
   clear hsz hdep hout hlat
   go_simp
   exact hK _ _ (hJ.nx hls hT rfl rfl (SP.plain hst (Ex.refl _) 4 (by decide)) nh)
  ·have q85 := hJ.is hT (hdep ⟨4, .data⟩ (by simp) rfl) rfl _ rfl _ rfl
   have hst := hJ.st
   refine wp_build _ _ rfl (partR ⟨0, x.ep, 0⟩ (.slice none 0 0)).toArray ?_ (hK _ _ (hJ.nx hls hT rfl rfl (SP.plain hst (Ex.refl _) 5 (by decide)) nh))
   simp only [List.map_cons, List.map_nil, show a.eval (.tmp 85) = _ from q85]
   exact built_rp0 x.ep
  ·have q81 := hJ.iq hT (hdep ⟨0, .data⟩ (by simp) rfl) rfl _ rfl _ rfl
   clear hsz hdep hout hlat
   go_simp
   exact hK _ _ (hJ.nx hls hT rfl rfl (SP.plain hJ.st (Ex.refl _) 6 (by decide)) nh)
  ·have q87 := hJ.iq hT (hdep ⟨6, .data⟩ (by simp) rfl) rfl _ rfl _ rfl
   clear hsz hdep hout hlat
   go_simp
   exact hK _ _ (hJ.nx hls hT rfl rfl (SP.plain hJ.st (Ex.refl _) 7 (by decide)) nh)
  ·have q88 := hJ.iq hT (hdep ⟨7, .data⟩ (by simp) rfl) rfl _ rfl _ rfl
   have q83 := hJ.iq hT (hdep ⟨2, .data⟩ (by simp) rfl) rfl _ rfl _ rfl
   clear hsz hdep hout hlat
   go_simp
   exact hK _ _ (hJ.nx hls hT rfl rfl (SP.plain hJ.st (Ex.refl _) 8 (by decide)) nh)
  have q89 := hJ.is hT (hdep ⟨8, .data⟩ (by simp) rfl) rfl _ rfl _ rfl
  have q86 := hJ.is hT (hdep ⟨5, .data⟩ (by simp) rfl) rfl _ rfl _ rfl
  have hl2 := (hdep ⟨2, .phase⟩ (by simp) rfl).1
  have hl4 := (hdep ⟨4, .phase⟩ (by simp) rfl).1
  have hl5 := (hdep ⟨5, .data⟩ (by simp) rfl).1
  have hord : ∀ x ∈ ([(9, 2), (9, 4), (9, 5)] : List (Nat × Nat)), x.1 = 9 → listed.getD x.2 false = true := (by intro x hx he; simp only [List.mem_cons, List.not_mem_nil, or_false] at hx; rcases hx with rfl | rfl | rfl; all_goals first | (exact absurd he (by decide)) | assumption)
  have hst := hJ.st
  have hpre := hst.ex hun
  have HP4 := HP.out.ext hpre
  refine wp_stp (C := srC m n p R) (partR ⟨0, x.ep, 0⟩ (.slice none 0 0)) _ _ M (2 + s * 4) rfl q89 q86 HP4.blk (by rw [srC_len]; show 2 + s * 4 + 4 ≤ 66; omega) (by rw [Try.sizeRP]; rfl) (partR_ones _ _ _ _) (fun w9 hd ho => ?_)
  rw [srC_part m n p R ⟨0, x.ep, 0⟩ (.slice none 0 0) hs16] at hd
  have hfn := HP4.fin (ys := []) hs16 ⟨by unfold i64; simp only; omega, HX.out.ep, by unfold i64; simp only; omega⟩ ho hd (RW.nil _ _)
  exact hK _ _ (hJ.nx hls hT rfl (by exact trivial) (SP.turn hst (by rw [hls]; decide) (by decide) ⟨.slice none 0 0, hfn.1, ((Ex.trans B0.out hpre).kt HWS.out).trans hfn.2, Or.inr (fun g hg => by cases hg)⟩) hord)
 intro listed f w4 hall hJ
 have hst := hJ.st
 simp only [putAll, Act.put, List.setIfInBounds_toArray, List.set_cons_zero, List.set_cons_succ, Nat.zero_add, Nat.reduceAdd]
 obtain ⟨wp, hfin, hxp⟩ := hst.fin (hall 9 (by simp))
 have HFIN := Hi hfin
 have HXP := Hi hxp
 clear hst hS0 hfin hxp
 clear hJ hall hT
 have HFF := Hi (show RAF w0 M m n p R xs s ⟨0, x.ep, 0⟩ [] w w4 from by
  obtain ⟨v9, h1, h2, h3⟩ := HFIN.out
  exact ⟨v9, h1.ext HXP.out, h2.trans (HXP.out.kt h1.sz), h3⟩)
 go_wp2_with fail
 go_ret
 exact Or.inr ⟨HKR.out.1, HKR.out.2, rfl, by rw [← HSN.out]; exact HFF.out⟩
theorem rapply_none (w0 : World) (M : Nat) (m n : Int) (p : Nat → Pa) (R : Nat → Value) (xs : Nat → List Vt) (x : Rk) (hk : ¬ (x.kind = 1 ∨ x.kind = 2 ∨ x.kind = 3 ∨ x.kind = 4)) (w : World) (hx : x.In w) (h : RS w0 w M m n p R xs) : Calls Try.prog 24 #[.pointer (some ⟨M, 0, none⟩), x.V] w fun e w' => e = .returned (.int .i64 1) ∧ Ex w w' := by
 obtain ⟨cs, hcs⟩ : ∃ cs, cs = x.C.toArray := ⟨_, rfl⟩
 have A0 : Hid (KB9 (w.alloc (.cells cs 39)) w.heap.size x) := Hi ⟨hx.v.ok, by rw [hcs]; exact Bk.new rfl _ _⟩
 have B0 : Hid (Ex w (w.alloc (.cells cs 39))) := Hi (Ex.alloc _ _)
 have HS := Hi (h.ext B0.out)
 rw [show (Calls Try.prog 24 #[.pointer (some ⟨M, 0, none⟩), x.V] w) = (Calls Try.prog 24 #[.pointer (some ⟨M, 0, none⟩), .agg cs] w) by rw [hcs]; rfl]
 have HX := Hi hx
 clear hcs hx h
 have HK := Hi hk
 go_enter Try.func24, Try.ntmps24
 have HP := Hi HS.out
 go_wp2_with (first | ((with_reducible refine so0 ?_ ?_); (focus rfl)) | ((with_reducible refine so4 [39] ?_ ?_); (focus rfl)))
 (with_reducible refine ⟨?_⟩)
 change wpList _ _ _ _ _ (w.alloc (.cells cs 39))
 generalize hw1 : w.alloc (.cells cs 39) = w1 at *
 clear hw1
 obtain ⟨B, hB⟩ : ∃ B, B = w.heap.size := ⟨_, rfl⟩
 rw [← hB] at A0 ⊢
 have HB := Hi hB
 clear hB
 (with_reducible refine at_any ?_ ?_); (focus go_simp); refine fun K0 hK => ld_rk _ B x rfl rfl A0.out (hK _ _ ?_)
 clear hK
 go_wp2_with fail
 refine (rcheck_none w0 M m n p R xs x HK.out w1 (HX.out.ext B0.out) HP.out).mono ?_
 rintro e w2 ⟨rfl, x2⟩
 replace B0 := Hi (Ex.trans B0.out x2)
 clear x2
 go_wp2_with fail
 go_ret
 exact ⟨rfl, B0.out⟩
end Go.Proofs.Ytmjfnpmnhehnkaa
