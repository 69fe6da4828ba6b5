/- Rm -/
import Derived.Test.YtmjfnpmnhehnkaaXbn
namespace Go.Proofs.Ytmjfnpmnhehnkaa
open Go.RowKit
/-- rows of steps that come in -/
structure Awp.In (ad : Option Addr) (cap : Nat) (l : List Aw) (w : World) : Prop where
  len : l.length ≤ cap
  nil : ad = none → cap = 0
  ins : ∀ (i : Nat) (x : Aw), l[i]? = some x → x.In w
  read : 0 < l.length → ∃ a o, ad = some ⟨a, o, none⟩ ∧ a < w.heap.size ∧ ∀ (i : Nat) (x : Aw), l[i]? = some x → w.rangeAt a (o + i * 64) x.C
theorem Awp.In.ext {ad : Option Addr} {cap : Nat} {l : List Aw} {w w' : World} (h : Awp.In ad cap l w) (k : Ex w w') : Awp.In ad cap l w' :=
  ⟨h.len, h.nil, fun i x hx => (h.ins i x hx).ext k, fun h0 => by
    obtain ⟨a, o, e, hB, hc⟩ := h.read h0
    exact ⟨a, o, e, Nat.lt_of_lt_of_le hB (Below.size k), fun i x hx j v hv => (Below.cell (p := ⟨a, o + i * 64 + j, none⟩) k hB).trans (hc i x hx j v hv)⟩⟩
theorem Try.sizeAw : (Try.prog.info? 41).map (·.size) = some 64 := by kernel_rfl
theorem ld_aw {o : Oper} {a : Act} {w : World} {K : Act → World → Prop} {Q : Exit → Act → World → Prop} (y : Operand) (g off : Nat) (x : Aw) (hx : x.raw.v.Ok) (ho : o.op = .load 41 y) (ha : a.eval y = .pointer (some ⟨g, off, none⟩)) (h : w.rangeAt g off x.C) (hk : K (a.put o.dst x.V) w) : o.wp Try.prog a w K Q := by
  obtain ⟨dd, hd⟩ : ∃ d, Try.prog.underlying 41 = some d ∧ d.isRow = true := ⟨_, Try.underlying41, rfl⟩
  exact wp_load_mid 41 y ho g off ha x.C dd h hd.1 hd.2 (by rw [Try.sizeAw, Aw.len hx]) hk
theorem SS.rising {w : World} {B M : Nat} {m n : Int} {p : Nat → Pa} {D : Nat → Nat} {r : Nat → Value} {v : Nat → List Vt} (h : SS w B M m n p D r v) (hw : WfC p (ctF v)) : ∀ i, i < 16 → Rising (v i) := fun i hi =>
  ⟨(h.ts.tb i hi).len, fun q x hx => (hw i hi).1 x.ct (List.mem_map.2 ⟨x, List.mem_of_getElem? hx, rfl⟩), fun q hq => (h.ts.tb i hi).srt q (q + 1) (Nat.lt_succ_self q) hq⟩
theorem apart9 {w w' : World} {B M B2 M2 : Nat} {m n m2 n2 : Int} {p p2 : Nat → Pa} {D D2 : Nat → Nat} {r r2 : Nat → Value} {v v2 : Nat → List Vt} (h : SS w B M m n p D r v) (h2 : SS w' B2 M2 m2 n2 p2 D2 r2 v2) (hB : w.heap.size ≤ B2) : Apart D r D2 r2 := by
  refine ⟨fun i j hi hj e => ?_, fun i j hi hj g hg hg2 => ?_⟩
  · have h3 := (h.ts.tb i hi).blk.lt
    have h4 := h2.ts.lo j hj
    omega
  have h3 := ((h.ts.tb i hi).row.row.lt g hg).2
  have h4 := ((h2.ts.tb j hj).row.row.lt g hg2).1
  have h5 := h2.ts.lo j hj
  omega
theorem RkM.sfr {w w' : World} {B M B9 : Nat} {m n : Int} {p : Nat → Pa} {D : Nat → Nat} {r : Nat → Value} {v : Nat → List Vt} {x : Rk} (k : SFr M D r w w') (h : SS w B M m n p D r v) (hx : RkM w B9 x) (hlt : ∀ i, i < 16 → ∀ g, (r i).ownBlock = some g → g < B9) : RkM w' B9 x := by
  have hd : ∀ i, i < 16 → Djn (.slice x.ad x.l.length x.cap) (r i) := fun i hi g h1 h2 => by
    have h3 := (hx.row.row.lt g h1).1
    have h4 := hlt i hi g h2
    omega
  exact rkm_of hx.inn.kind hx.inn.shard hx.inn.tw hx.inn.ep (k.tvn h hx.v) (k.row h hx.row hd) hx.sh
/-- both states, told alike -/
structure EI (w0 w : World) (B M : Nat) (m n : Int) (D : Nat → Nat) (M2 : Nat) (p : Nat → Pa) (r : Nat → Value) (v : Nat → List Vt) (R : Nat → Value) (xs : Nat → List Vt) : Prop where
  s : SS w B M m n p D r v
  f : RS w0 w M2 m n p R xs
  dj : ∀ j, j < 16 → ∀ i, i < 16 → Djn (R j) (r i)
  eq : ∀ i, i < 16 → ctF v i = ctF xs i
  wf : WfC p (ctF v)
  ex : Ex w0 w
  lo : w0.heap.size ≤ M ∧ w0.heap.size ≤ B
/-- .. between the two Applys -/
structure EJ (w0 w : World) (B M : Nat) (m n : Int) (D : Nat → Nat) (M2 : Nat) (p p' : Nat → Pa) (r' : Nat → Value) (v v' : Nat → List Vt) (R : Nat → Value) (xs : Nat → List Vt) (x : Rk) (E : Int) : Prop where
  s : SS w B M m n p' D r' v'
  st : StepC m n p (ctF v) x E p' (ctF v')
  f : RS w0 w M2 m n p R xs
  dj : ∀ j, j < 16 → ∀ i, i < 16 → Djn (R j) (r' i)
  eq : ∀ i, i < 16 → ctF v i = ctF xs i
  wf : WfC p (ctF v)
  ris : ∀ i, i < 16 → Rising (xs i)
  ex : Ex w0 w
  lo : w0.heap.size ≤ M ∧ w0.heap.size ≤ B
section
variable {w0 w w' : World} {B M : Nat} {m n : Int} {D : Nat → Nat} {M2 : Nat} {p p' : Nat → Pa} {r r' : Nat → Value} {v v' : Nat → List Vt} {R R' : Nat → Value} {xs xs' : Nat → List Vt} {x : Rk} {E E2 : Int}
theorem EI.ext (h : EI w0 w B M m n D M2 p r v R xs) (k : Ex w w') : EI w0 w' B M m n D M2 p r v R xs := ⟨h.s.ext k, h.f.ext k, h.dj, h.eq, h.wf, Ex.trans h.ex k, h.lo⟩
theorem EJ.ext (h : EJ w0 w B M m n D M2 p p' r' v v' R xs x E) (k : Ex w w') : EJ w0 w' B M m n D M2 p p' r' v v' R xs x E := ⟨h.s.ext k, h.st, h.f.ext k, h.dj, h.eq, h.wf, h.ris, Ex.trans h.ex k, h.lo⟩
theorem EI.ris (h : EI w0 w B M m n D M2 p r v R xs) : ∀ i, i < 16 → Rising (xs i) := fun i hi => rising_ct (h.eq i hi).symm (h.s.rising h.wf i hi)
theorem EI.sap (h : EI w0 w B M m n D M2 p r v R xs) (st : StepC m n p (ctF v) x E p' (ctF v')) (hs : SS w' B M m n p' D r' v') (fr : SFr M D r w w') (hl : ∀ i, i < 16 → Lies w (r i) (r' i)) : EJ w0 w' B M m n D M2 p p' r' v v' R xs x E :=
  ⟨hs, st, fr.rs h.s h.lo.1 h.lo.2 h.f h.dj, fun j hj i hi => (hl i hi).djn9 (h.dj j hj i hi) (fun g hg => ((h.f.rw j hj).row.lt g hg).2), h.eq, h.wf, h.ris, fr.ex h.s h.lo.1 h.lo.2 h.ex, h.lo⟩
theorem EJ.rap (h : EJ w0 w B M m n D M2 p p' r' v v' R xs x E) {p2 : Nat → Pa} (hx : x.In w) (st : StepC m n p (ctF xs) x E2 p2 (ctF xs')) (hf : RS w0 w' M2 m n p2 R' xs') (kt : Kt [124] w0.heap.size w w') (hl : ∀ i, i < 16 → Lies w (R i) (R' i)) : E2 = E ∧ EI w0 w' B M m n D M2 p' r' v' R' xs' := by
  obtain ⟨e1, e2, e3⟩ := h.st.uniq st h.eq
  subst e2
  exact ⟨e1.symm, ⟨h.s.kts kt (by decide) (by decide) (by decide) (by decide), hf, fun j hj i hi g h1 h2 => (hl j hj).djn9 (y := r' i) (fun g a b => h.dj j hj i hi g b a) (fun g hg => ((h.s.ts.tb i hi).row.row.lt g hg).2) g h2 h1, e3, h.st.wf h.wf hx.ep hx.tw, Below.trans h.ex kt.below, h.lo⟩⟩
end
theorem wf_new (m n : Int) (v : Nat → List Vt) (h : ∀ i, i < 16 → v i = []) : WfC (newP m n) (ctF v) := fun i hi => by
  have e : ctF v i = [] := by unfold ctF; rw [h i hi]; rfl
  rw [e]
  exact ⟨fun c hc => by simp at hc, fun _ => rfl, newP_ok m n i⟩
theorem ei_new {w0 w1 w2 : World} {M M2 : Nat} {m n : Int} {D : Nat → Nat} {r : Nat → Value} {v : Nat → List Vt} (hs : SS w1 w0.heap.size M m n (newP m n) D r v) (hM : w0.heap.size ≤ M) (hv : ∀ i, i < 16 → v i = []) (x1 : Ex w0 w1) (hf : RS w1 w2 M2 m n (newP m n) (fun _ => .slice none 0 0) (fun _ => [])) (x2 : Ex w1 w2) : EI w0 w2 w0.heap.size M m n D M2 (newP m n) r v (fun _ => .slice none 0 0) (fun _ => []) :=
  ⟨hs.ext x2, ⟨hf.blk, fun i hi => RW.nil _ _, hf.ok, hf.mok, Nat.le_trans (Below.size x1) hf.lo, Nat.le_trans (Below.size x1) hf.sz⟩, (fun j hj i hi g h1 => by cases h1), (fun i hi => by unfold ctF; rw [hv i hi]), wf_new m n v hv, Ex.trans x1 x2, hM, Nat.le_refl _⟩
set_option maxHeartbeats 4000000 in
set_option maxRecDepth 100000 in
theorem epochs_any (ad : Option Addr) (cap : Nat) (l : List Aw) (w : World) (hL : l.length ≤ 9223372036854775807) (hin : Awp.In ad cap l w) : Calls Try.prog 5 #[.slice ad l.length cap] w fun e w' => e = .returned (.bool true) ∧ Ex w w' := by
  obtain ⟨nn, hn⟩ : ∃ n, n = l.length := ⟨_, rfl⟩
  have HN := Hi hn
  have HIN := Hi hin
  rw [← hn] at hL ⊢
  clear hn hin
  go_enter Try.func5, Try.ntmps5
  go_wp2_with fail
  refine (snew_any 0 3 w (by decide)).mono ?_
  rintro e w1 ⟨M, D, r0, v0, rfl, hs, hM, hv, x1⟩
  have HS := Hi (And.intro hs (And.intro hM (And.intro hv x1)))
  clear hs hM hv x1
  go_wp2_with fail
  refine (rnew_any 0 3 w1 (by decide)).mono ?_
  rintro e w2 ⟨M2, rfl, hf, x2⟩
  have HE := Hi (ei_new HS.out.1 HS.out.2.1 HS.out.2.2.1 HS.out.2.2.2 hf x2)
  clear HS hf x2
  go_wp2_with fail
  go_loopw [5] (fun i wr => ∃ (k : Nat) (p : Nat → Pa) (r : Nat → Value) (v : Nat → List Vt) (R : Nat → Value) (xs : Nat → List Vt), k ≤ nn ∧ k ≤ 50 ∧ i = .int .i64 k ∧ Hid (EI w wr w.heap.size M 0 3 D M2 p r v R xs)) (fun i _ => nn - (intOf i).toNat)
  case atStart => exact ⟨0, newP 0 3, r0, v0, _, _, by omega, by omega, rfl, HE⟩
  clear HE
  rename World => wo
  obtain ⟨k, p, r, v, R, xs, hk, hk50, rfl, HE⟩ := hrel
  by_cases hlt : k < nn
  rotate_left
  · obtain rfl : k = nn := by omega
    have q1 : ¬ (k : Int) < (k : Int) := by omega
    go_wp2_with fail
    refine (known16 wo).mono ?_
    rintro e w9 ⟨rfl, x9⟩
    have HX9 := Hi (Ex.trans HE.out.ex x9)
    go_wp2_with fail
    go_ret
    exact ⟨rfl, HX9.out⟩
  by_cases h50 : k < 50
  rotate_left
  · obtain rfl : k = 50 := by omega
    have q1 : (50 : Int) < (nn : Int) := by omega
    go_wp2_with fail
    refine (known16 wo).mono ?_
    rintro e w9 ⟨rfl, x9⟩
    have HX9 := Hi (Ex.trans HE.out.ex x9)
    go_wp2_with fail
    go_ret
    exact ⟨rfl, HX9.out⟩
  skip
  have q0 : (0 : Int) ≤ (k : Int) := by omega
  have q1 : (k : Int) < (nn : Int) := by omega
  have q2 : (k : Int) < 50 := by omega
  go_wp2_with fail
  refine (scopy_any w.heap.size M 0 3 p D r v (HE.out.s.rising HE.out.wf) wo HE.out.s).mono ?_
  rintro e w3 ⟨Mc, Dc, rc, vc, rfl, hc, hMc, hcv, x3⟩
  have HC := Hi hc
  have HMC := Hi (show M ≠ Mc from fun e => by have := HE.out.s.blk.lt; omega)
  have HAP := Hi (apart9 HE.out.s hc (Nat.le_refl _))
  have HCV := Hi hcv
  have E3 := Hi (HE.out.ext x3)
  have HLT : Hid (∀ i, i < 16 → ∀ g, (r i).ownBlock = some g → g < w3.heap.size) := Hi (fun i hi g hg => ((E3.out.s.ts.tb i hi).row.row.lt g hg).2)
  clear hc hMc hcv x3
  obtain ⟨ab, o, rfl, hab, hra⟩ := (HIN.out.ext E3.out.ex).read (by rw [← HN.out]; omega)
  obtain ⟨y, hy⟩ : ∃ z, l[k]? = some z := ⟨_, List.getElem?_eq_getElem (by rw [← HN.out]; exact hlt)⟩
  have YI := Hi (HIN.out.ins k y hy)
  have YR : Hid (w3.rangeAt ab (o + k * 64) y.C) := Hi (hra k y hy)
  clear hra hab
  go_wp2_with (first | ((with_reducible refine so4 [41, 39, 1000 + 39] ?_ ?_); (focus rfl)))
  refine at9 (by go_simp) fun K0 hK => ld_aw _ ab (o + k * 64) y YI.out.raw.v.ok rfl rfl YR.out (hK _ _ ?_)
  clear hK
  go_wp2_with fail
  refine (record_any w M2 0 3 p R xs y w3 (YI.out.ext E3.out.ex) E3.out.f).mono ?_
  rintro e w4 ⟨x, rfl, hx, x4⟩
  have HX0 := Hi hx
  have HXI : Hid (x.In w4) := Hi (by
    rcases hx with rfl | h9
    · exact YI.out.raw.ext (Ex.trans E3.out.ex x4)
    · exact h9.inn)
  have E4 := Hi (E3.out.ext x4)
  have C4 := Hi (HC.out.ext x4)
  clear hx x4 YR E3 HC HE
  go_wp2_with (first | ((with_reducible refine so4 [41, 39, 1000 + 39] ?_ ?_); (focus rfl)))
  refine at9 (by go_simp) fun K0 hK => st_rk _ _ w4.heap.size x rfl rfl rfl HXI.out.v.ok (Bk.new rfl _ _) (by rfl) (fun w5 hd ho => hK _ _ ?_)
  clear hK
  have x5 : Ex w4 w5 := ho.below w4.heap.size (Nat.le_refl _) w4 (Ex.alloc w4 _)
  obtain ⟨g, hg⟩ : ∃ g, g = w4.heap.size := ⟨_, rfl⟩
  rw [← hg] at hd ⊢
  have HG := Hi hd
  have HX5 : Hid (x = y.raw ∨ RkM w5 w3.heap.size x) := Hi (HX0.out.imp id fun h9 => h9.ext x5)
  have HXI5 := Hi (HXI.out.ext x5)
  have E5 := Hi (E4.out.ext x5)
  have C5 := Hi (C4.out.ext x5)
  have HRX : Hid (RkX w w5 x) := Hi (by
    rcases HX5.out with h9 | h9
    · rw [h9]; exact RkX.raw YI.out.raw E5.out.ex
    · exact RkX.made h9)
  clear hd ho hg x5 HX0 HXI E4 C4
  go_wp2_with (first | ((with_reducible refine so4 [41, 39, 1000 + 39] ?_ ?_); (focus rfl)))
  refine at9 (by go_simp) fun K0 hK => ld_rk _ g x rfl rfl HG.out (hK _ _ ?_)
  clear hK
  go_wp2_with fail
  refine (sapply_all w.heap.size M 0 3 p D r v x w5 HXI5.out (HRX.out.md M E5.out.lo.1 ⟨_, E5.out.s.blk⟩) E5.out.s).mono ?_
  rintro e w6 ⟨E, p2, r2, v2, rfl, st, hs2, fr, hl⟩
  have J6 := Hi (E5.out.sap st hs2 fr hl)
  have C6 := Hi (fr.ss E5.out.s C5.out HMC.out HAP.out)
  have G6 : Hid (KB9 w6 g x) := Hi ⟨HG.out.1, fr.typ E5.out.s HG.out.2 (by decide) (by decide) (by decide)⟩
  have HRX6 : Hid (RkX w w6 x) := Hi (by
    rcases HX5.out with h9 | h9
    · rw [h9]; exact RkX.raw YI.out.raw J6.out.ex
    · exact RkX.made (h9.sfr fr E5.out.s HLT.out))
  have HEPS := Hi (st.ep E5.out.wf)
  have HNE := Hi st.ne
  clear st hs2 fr hl E5 C5 HG HRX HXI5 HX5 HLT HAP HMC
  go_wp2_with (first | ((with_reducible refine so4 [41, 39, 1000 + 39] ?_ ?_); (focus rfl)))
  refine at9 (by go_simp) fun K0 hK => ld_rk _ g x rfl rfl G6.out (hK _ _ ?_)
  clear hK
  go_wp2_with fail
  refine (rapply_all w M2 0 3 p R xs x w6 HRX6.out (fun i hi => ⟨(J6.out.ris i hi).1, (J6.out.ris i hi).srt⟩) J6.out.f).mono ?_
  rintro e w7 ⟨E2, p3, R2, xs2, rfl, st2, hf2, kt, hl2⟩
  have HE7 := Hi (J6.out.rap HRX6.out.inn st2 hf2 kt hl2).2
  have C7 := Hi (C6.out.kts kt (by decide) (by decide) (by decide) (by decide))
  have HWF := Hi HE7.out.wf
  clear st2 hf2 kt hl2 J6 C6 G6 HRX6
  by_cases hE0 : E = 0
  · skip
    subst hE0
    go_wp2_with fail
    have HEB := HE7
    have HCB := C7
    clear HE7 C7
    go_loopw [9] (fun i wq => ∃ j : Nat, j ≤ 16 ∧ i = .int .i64 j ∧ Hid (EI w wq w.heap.size M 0 3 D M2 p2 r2 v2 R2 xs2) ∧ Hid (SS wq wo.heap.size Mc 0 3 p Dc rc vc)) (fun i _ => 16 - (intOf i).toNat)
    case atStart => exact ⟨0, by omega, rfl, HEB, HCB⟩
    clear HEB HCB
    obtain ⟨j, hj, rfl, HEB, HCB⟩ := hrel
    by_cases hjl : j < 16
    rotate_left
    · skip
      obtain rfl : j = 16 := by omega
      go_wp2_with fail
      (first | (refine ⟨?_, ?measure⟩; (repeat apply Exists.intro); refine ⟨?rel, rfl⟩) | refine ⟨?rel, ?measure⟩)
      case rel => exact ⟨k + 1, p2, r2, v2, R2, xs2, by omega, by omega, by go_num, HEB⟩
      case measure => simp [intOf]; omega
    skip
    have j0 : (0 : Int) ≤ (j : Int) := by omega
    have j1 : (j : Int) < 16 := by omega
    go_wp2_with fail
    refine (role_any wo.heap.size Mc 0 3 p Dc rc vc j hjl wr HCB.out).mono ?_
    rintro e wa ⟨rfl, xa⟩
    have HEA := Hi (HEB.out.ext xa)
    have HCA := Hi (HCB.out.ext xa)
    clear xa HEB HCB
    go_wp2_with fail
    refine (role_any w.heap.size M 0 3 p2 D r2 v2 j hjl wa HEA.out.s).mono ?_
    rintro e wb ⟨rfl, xb⟩
    have HEB := Hi (HEA.out.ext xb)
    have HCB := Hi (HCA.out.ext xb)
    clear xb HEA HCA
    have hep : ¬ (p2 j).ep < (p j).ep := by have := HEPS.out j hjl; omega
    obtain ⟨q2, hq2⟩ : ∃ q, q = p2 j := ⟨_, rfl⟩
    obtain ⟨q1, hq1⟩ : ∃ q, q = p j := ⟨_, rfl⟩
    rw [← hq2, ← hq1] at hep
    rw [← hq2, ← hq1]
    have HQ2 := Hi hq2
    clear hq2 hq1
    by_cases hr0 : q2.role = 0
    · skip
      have HR0 := Hi hr0
      go_wp2_with fail
      refine (svaults_any w.heap.size M 0 3 p2 D r2 v2 j hjl wb HEB.out.s).mono ?_
      rintro e wc ⟨v9, ys, rfl, hr9, hc9, xc⟩
      have he9 : ys = [] := by
        have h8 := (HWF.out j hjl).2.1 (by rw [← HQ2.out]; exact HR0.out)
        have h7 : ys.map Vt.ct = [] := hc9.trans h8
        exact List.map_eq_nil_iff.1 h7
      subst he9
      obtain ⟨ad9, cap9, rfl, _⟩ := hr9.inn
      replace HEB := Hi (HEB.out.ext xc)
      replace HCB := Hi (HCB.out.ext xc)
      clear hr9 hc9 xc
      go_wp2_with fail
      refine (svaults_any w.heap.size M 0 3 p2 D r2 v2 j hjl wc HEB.out.s).mono ?_
      rintro e wd ⟨v9, ys, rfl, hr9, hc9, xd⟩
      have HEC := Hi (HEB.out.ext xd)
      have HCC := Hi (HCB.out.ext xd)
      obtain ⟨ad9, cap9, rfl, _⟩ := hr9.inn
      have hl4 : ¬ (4 : Int) < (ys.length : Int) := by have h8 := congrArg List.length hc9; simp only [List.length_map] at h8; have h7 := (HEB.out.s.ts.tb j hjl).len; omega
      obtain ⟨ly, hly⟩ : ∃ n, n = ys.length := ⟨_, rfl⟩
      rw [← hly] at hl4 ⊢
      clear hr9 hc9 xd hly
      go_wp2_with fail
      (first | (refine ⟨?_, ?measure⟩; (repeat apply Exists.intro); refine ⟨?rel, rfl⟩) | refine ⟨?rel, ?measure⟩)
      case rel => exact ⟨j + 1, by omega, by go_num, HEC, HCC⟩
      case measure => simp [intOf]; omega
    skip
    go_wp2_with fail
    refine (svaults_any w.heap.size M 0 3 p2 D r2 v2 j hjl wb HEB.out.s).mono ?_
    rintro e wd ⟨v9, ys, rfl, hr9, hc9, xd⟩
    have HEC := Hi (HEB.out.ext xd)
    have HCC := Hi (HCB.out.ext xd)
    obtain ⟨ad9, cap9, rfl, _⟩ := hr9.inn
    have hl4 : ¬ (4 : Int) < (ys.length : Int) := by have h8 := congrArg List.length hc9; simp only [List.length_map] at h8; have h7 := (HEB.out.s.ts.tb j hjl).len; omega
    obtain ⟨ly, hly⟩ : ∃ n, n = ys.length := ⟨_, rfl⟩
    rw [← hly] at hl4 ⊢
    clear hr9 hc9 xd hly
    go_wp2_with fail
    (first | (refine ⟨?_, ?measure⟩; (repeat apply Exists.intro); refine ⟨?rel, rfl⟩) | refine ⟨?rel, ?measure⟩)
    case rel => exact ⟨j + 1, by omega, by go_num, HEC, HCC⟩
    case measure => simp [intOf]; omega
  skip
  have e1 : (E != (0 : Int)) = true := by simpa using hE0
  go_wp2_with fail
  clear e1
  obtain ⟨hp, hcc⟩ := HNE.out hE0
  refine (ssame_eq wo.heap.size Mc w.heap.size M 0 3 p Dc D rc r2 vc v2 w7 C7.out (by have h9 := HE7.out.s; rw [hp] at h9; exact h9) (fun i hi => (HCV.out i hi).trans (congrFun hcc i).symm) (fun i hi => Nat.le_trans (C7.out.ts.tb i hi).len (by decide))).mono ?_
  rintro e w8 ⟨rfl, x8⟩
  have HEB := Hi (HE7.out.ext x8)
  have HCB := Hi (C7.out.ext x8)
  clear x8 HE7 C7 hp hcc
  go_wp2_with fail
  go_loopw [9] (fun i wq => ∃ j : Nat, j ≤ 16 ∧ i = .int .i64 j ∧ Hid (EI w wq w.heap.size M 0 3 D M2 p2 r2 v2 R2 xs2) ∧ Hid (SS wq wo.heap.size Mc 0 3 p Dc rc vc)) (fun i _ => 16 - (intOf i).toNat)
  case atStart => exact ⟨0, by omega, rfl, HEB, HCB⟩
  clear HEB HCB
  obtain ⟨j, hj, rfl, HEB, HCB⟩ := hrel
  by_cases hjl : j < 16
  rotate_left
  · skip
    obtain rfl : j = 16 := by omega
    go_wp2_with fail
    (first | (refine ⟨?_, ?measure⟩; (repeat apply Exists.intro); refine ⟨?rel, rfl⟩) | refine ⟨?rel, ?measure⟩)
    case rel => exact ⟨k + 1, p2, r2, v2, R2, xs2, by omega, by omega, by go_num, HEB⟩
    case measure => simp [intOf]; omega
  skip
  have j0 : (0 : Int) ≤ (j : Int) := by omega
  have j1 : (j : Int) < 16 := by omega
  go_wp2_with fail
  refine (role_any wo.heap.size Mc 0 3 p Dc rc vc j hjl wr HCB.out).mono ?_
  rintro e wa ⟨rfl, xa⟩
  have HEA := Hi (HEB.out.ext xa)
  have HCA := Hi (HCB.out.ext xa)
  clear xa HEB HCB
  go_wp2_with fail
  refine (role_any w.heap.size M 0 3 p2 D r2 v2 j hjl wa HEA.out.s).mono ?_
  rintro e wb ⟨rfl, xb⟩
  have HEB := Hi (HEA.out.ext xb)
  have HCB := Hi (HCA.out.ext xb)
  clear xb HEA HCA
  have hep : ¬ (p2 j).ep < (p j).ep := by have := HEPS.out j hjl; omega
  obtain ⟨q2, hq2⟩ : ∃ q, q = p2 j := ⟨_, rfl⟩
  obtain ⟨q1, hq1⟩ : ∃ q, q = p j := ⟨_, rfl⟩
  rw [← hq2, ← hq1] at hep
  rw [← hq2, ← hq1]
  have HQ2 := Hi hq2
  clear hq2 hq1
  by_cases hr0 : q2.role = 0
  · skip
    have HR0 := Hi hr0
    go_wp2_with fail
    refine (svaults_any w.heap.size M 0 3 p2 D r2 v2 j hjl wb HEB.out.s).mono ?_
    rintro e wc ⟨v9, ys, rfl, hr9, hc9, xc⟩
    have he9 : ys = [] := by
      have h8 := (HWF.out j hjl).2.1 (by rw [← HQ2.out]; exact HR0.out)
      have h7 : ys.map Vt.ct = [] := hc9.trans h8
      exact List.map_eq_nil_iff.1 h7
    subst he9
    obtain ⟨ad9, cap9, rfl, _⟩ := hr9.inn
    replace HEB := Hi (HEB.out.ext xc)
    replace HCB := Hi (HCB.out.ext xc)
    clear hr9 hc9 xc
    go_wp2_with fail
    refine (svaults_any w.heap.size M 0 3 p2 D r2 v2 j hjl wc HEB.out.s).mono ?_
    rintro e wd ⟨v9, ys, rfl, hr9, hc9, xd⟩
    have HEC := Hi (HEB.out.ext xd)
    have HCC := Hi (HCB.out.ext xd)
    obtain ⟨ad9, cap9, rfl, _⟩ := hr9.inn
    have hl4 : ¬ (4 : Int) < (ys.length : Int) := by have h8 := congrArg List.length hc9; simp only [List.length_map] at h8; have h7 := (HEB.out.s.ts.tb j hjl).len; omega
    obtain ⟨ly, hly⟩ : ∃ n, n = ys.length := ⟨_, rfl⟩
    rw [← hly] at hl4 ⊢
    clear hr9 hc9 xd hly
    go_wp2_with fail
    (first | (refine ⟨?_, ?measure⟩; (repeat apply Exists.intro); refine ⟨?rel, rfl⟩) | refine ⟨?rel, ?measure⟩)
    case rel => exact ⟨j + 1, by omega, by go_num, HEC, HCC⟩
    case measure => simp [intOf]; omega
  skip
  go_wp2_with fail
  refine (svaults_any w.heap.size M 0 3 p2 D r2 v2 j hjl wb HEB.out.s).mono ?_
  rintro e wd ⟨v9, ys, rfl, hr9, hc9, xd⟩
  have HEC := Hi (HEB.out.ext xd)
  have HCC := Hi (HCB.out.ext xd)
  obtain ⟨ad9, cap9, rfl, _⟩ := hr9.inn
  have hl4 : ¬ (4 : Int) < (ys.length : Int) := by have h8 := congrArg List.length hc9; simp only [List.length_map] at h8; have h7 := (HEB.out.s.ts.tb j hjl).len; omega
  obtain ⟨ly, hly⟩ : ∃ n, n = ys.length := ⟨_, rfl⟩
  rw [← hly] at hl4 ⊢
  clear hr9 hc9 xd hly
  go_wp2_with fail
  (first | (refine ⟨?_, ?measure⟩; (repeat apply Exists.intro); refine ⟨?rel, rfl⟩) | refine ⟨?rel, ?measure⟩)
  case rel => exact ⟨j + 1, by omega, by go_num, HEC, HCC⟩
  case measure => simp [intOf]; omega
end Go.Proofs.Ytmjfnpmnhehnkaa
