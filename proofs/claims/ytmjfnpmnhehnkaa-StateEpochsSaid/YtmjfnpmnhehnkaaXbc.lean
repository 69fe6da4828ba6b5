/- Sr, Ss, Uk, Vlf, Tj, Ul, St, Su, Wa, We, Wf -/
import Derived.Test.YtmjfnpmnhehnkaaXbb
import Derived.Lib.SlBytesConst
namespace Go.Proofs.Ytmjfnpmnhehnkaa
open Go.RowKit
theorem IRow.read {w : World} {B m cap : Nat} {ad : Option Addr} {xs : List (List UInt8)} (h : IRow w B (.slice ad m cap) xs) (h4 : ∀ x ∈ xs, (Lib.byteCells x).length = 4) : 0 < xs.length → ∃ a o, ad = some ⟨a, o, none⟩ ∧ a < w.heap.size ∧ ∀ (i : Nat) (x : List UInt8), xs[i]? = some x → w.rangeAt a (o + i * 4) (Lib.byteCells x) := by
  obtain ⟨ad2, cap2, e, _, _, _, hr⟩ := own_rd h
  cases e
  exact gflat_back Lib.byteCells 4 h4 hr
theorem ld_idr {o : Oper} {a : Act} {w : World} {K : Act → World → Prop} {Q : Exit → Act → World → Prop} (y : Operand) (g off : Nat) (x : List UInt8) (ho : o.op = .load 32 y) (ha : a.eval y = .pointer (some ⟨g, off, none⟩)) (h : w.rangeAt g off (Lib.byteCells x)) (hx : (Lib.byteCells x).length = 4) (hk : K (a.put o.dst (digV x)) w) : o.wp Try.prog a w K Q := by
  obtain ⟨dd, hd⟩ : ∃ d, Try.prog.underlying 32 = some d ∧ d.isRow = true := ⟨_, Try.underlying32, rfl⟩
  exact wp_load_mid 32 y ho g off ha (Lib.byteCells x) dd h hd.1 hd.2 (by rw [Try.sizeId, hx]) hk
/-- region 6: a vault is made (9), a row of it (10), appended (11), assigned (12) -/
structure SV (w0 wr : World) (X : List UInt8) (ys : List Vt) (l : Array Bool) (f : Nat → Value) (wq : World) : Prop where
  exw : Ex w0 wq
  ex : l.getD 11 false = false → Ex wr wq
  c : l.getD 9 false = true → l.getD 11 false = false → ∃ z : Vt, f 9 = z.V ∧ TVN wq z ∧ z.id = X ∧ z.ct.right = true
  b : l.getD 10 false = true → l.getD 11 false = false → ∃ (z : Vt) (g : Nat), f 10 = .slice (some ⟨g, 0, none⟩) 1 1 ∧ Bk wq g 36 z.C.toArray ∧ TVN wq z ∧ z.id = X ∧ z.ct.right = true
  fin : l.getD 11 false = true → ∃ z : Vt, VRow wq w0.heap.size (f 11) (ys ++ [z]) ∧ z.id = X ∧ z.ct.right = true ∧ Kt [36] w0.heap.size wr wq
  val : l.getD 12 false = true → f 12 = f 11
section
variable {w0 wr wq wq' : World} {X : List UInt8} {ys : List Vt} {l : Array Bool} {f : Nat → Value} {u : Value}
theorem SV.start (h0 : ∀ i, l.getD i false = false) (hx : Ex wr wq) (hw : Ex w0 wr) : SV w0 wr X ys l f wq :=
  ⟨Ex.trans hw hx, fun _ => hx, (fun a => by rw [h0] at a; cases a), (fun a => by rw [h0] at a; cases a), (fun a => by rw [h0] at a; cases a), (fun a => by rw [h0] at a; cases a)⟩
theorem SV.plain (h : SV w0 wr X ys l f wq) (i : Nat) (hi : i < 9) : SV w0 wr X ys (l.setIfInBounds i true) (upd f i u) wq := by
  refine ⟨h.exw, fun a => ?_, fun a b => ?_, fun a b => ?_, fun a => ?_, fun a => ?_⟩
  · rw [gset (by omega) false] at a; exact h.ex a
  · rw [gset (by omega) false] at a b; rw [upd_ne _ _ (by omega)]; exact h.c a b
  · rw [gset (by omega) false] at a b; rw [upd_ne _ _ (by omega)]; exact h.b a b
  · rw [gset (by omega) false] at a; rw [upd_ne _ _ (by omega)]; exact h.fin a
  rw [gset (by omega) false] at a; rw [upd_ne _ _ (by omega), upd_ne _ _ (by omega)]; exact h.val a
theorem SV.call (h : SV w0 wr X ys l f wq) (h11 : l.getD 11 false = false) (h12 : l.getD 12 false = false) (k : Ex wq wq') (hz : ∃ z : Vt, u = z.V ∧ TVN wq' z ∧ z.id = X ∧ z.ct.right = true) : SV w0 wr X ys (l.setIfInBounds 9 true) (upd f 9 u) wq' := by
  refine ⟨Ex.trans h.exw k, fun _ => Ex.trans (h.ex h11) k, fun _ _ => by rw [upd_same]; exact hz, fun a b => ?_, fun a => ?_, fun a => ?_⟩
  · rw [gset (by omega) false] at a b; rw [upd_ne _ _ (by omega)]
    obtain ⟨z, g, e1, e2, e3, e4⟩ := h.b a b
    exact ⟨z, g, e1, e2.ext k, e3.ext k, e4⟩
  · rw [gset (by omega) false, h11] at a; cases a
  rw [gset (by omega) false, h12] at a; cases a
theorem SV.bs (h : SV w0 wr X ys l f wq) (h11 : l.getD 11 false = false) (h12 : l.getD 12 false = false) (k : Ex wq wq') (hz : ∃ (z : Vt) (g : Nat), u = .slice (some ⟨g, 0, none⟩) 1 1 ∧ Bk wq' g 36 z.C.toArray ∧ TVN wq' z ∧ z.id = X ∧ z.ct.right = true) : SV w0 wr X ys (l.setIfInBounds 10 true) (upd f 10 u) wq' := by
  refine ⟨Ex.trans h.exw k, fun _ => Ex.trans (h.ex h11) k, fun a b => ?_, fun _ _ => by rw [upd_same]; exact hz, fun a => ?_, fun a => ?_⟩
  · rw [gset (by omega) false] at a b; rw [upd_ne _ _ (by omega)]
    obtain ⟨z, e1, e2, e3⟩ := h.c a b
    exact ⟨z, e1, e2.ext k, e3⟩
  · rw [gset (by omega) false, h11] at a; cases a
  rw [gset (by omega) false, h12] at a; cases a
theorem SV.app (hl : 11 < l.size) (h12 : l.getD 12 false = false) (k : Ex w0 wq') (hz : ∃ z : Vt, VRow wq' w0.heap.size u (ys ++ [z]) ∧ z.id = X ∧ z.ct.right = true ∧ Kt [36] w0.heap.size wr wq') : SV w0 wr X ys (l.setIfInBounds 11 true) (upd f 11 u) wq' := by
  refine ⟨k, fun a => ?_, fun _ a => ?_, fun _ a => ?_, fun _ => by rw [upd_same]; exact hz, fun a => ?_⟩
  · rw [set_new hl] at a; cases a
  · rw [set_new hl] at a; cases a
  · rw [set_new hl] at a; cases a
  rw [gset (by omega) false, h12] at a; cases a
theorem SV.asg (h : SV w0 wr X ys l f wq) : SV w0 wr X ys (l.setIfInBounds 12 true) (upd f 12 (f 11)) wq := by
  refine ⟨h.exw, fun a => ?_, fun a b => ?_, fun a b => ?_, fun a => ?_, fun a => ?_⟩
  · rw [gset (by omega) false] at a; exact h.ex a
  · rw [gset (by omega) false] at a b; rw [upd_ne _ _ (by omega)]; exact h.c a b
  · rw [gset (by omega) false] at a b; rw [upd_ne _ _ (by omega)]; exact h.b a b
  · rw [gset (by omega) false] at a; rw [upd_ne _ _ (by omega)]; exact h.fin a
  rw [upd_same, upd_ne _ _ (by omega)]
end
def KvsPost (s : Int) (w : World) (e : Ending) (w' : World) : Prop := ∃ (v : Value) (ys : List Vt), e = .returned v ∧ VRow w' w.heap.size v ys ∧ ys.length ≤ 4 ∧ ys.map (fun y => y.id) = (idsS s 256).take ys.length ∧ (∀ y ∈ ys, y.ct.right = true) ∧ Ex w w'
set_option maxHeartbeats 8000000 in
set_option maxRecDepth 100000 in
theorem keepvs_any (ad : Option Addr) (cap : Nat) (l : List Kv) (s : Int) (hs : i64 s) (w : World) (hL : l.length ≤ 9223372036854775807) (hin : Kvp.In ad cap l w) : Calls Try.prog 27 #[.slice ad l.length cap, .int .i64 s] w (KvsPost s w) := by
  have HIN := Hi hin
  obtain ⟨n, hn⟩ : ∃ n, n = l.length := ⟨_, rfl⟩
  rw [← hn] at hL ⊢
  have HN := Hi hn
  have HS := Hi hs
  clear hn hin hs
  go_enter Try.func27, Try.ntmps27
  go_wp2_with fail
  refine (ids_any s HS.out w).mono ?_
  rintro e w1 ⟨v1, rfl, hrow, hx⟩
  obtain ⟨adI, capI, rfl, _, _, hcm, _⟩ := own_rd hrow
  have IR0 := Hi hrow
  have BX0 := Hi hx
  have HL4 : Hid (∀ x ∈ idsS s 256, (Lib.byteCells x).length = 4) := Hi idsS_four
  have hm256 : (idsS s 256).length ≤ 256 := idsS_len s 256
  obtain ⟨L, hL1⟩ : ∃ L, L = idsS s 256 := ⟨_, rfl⟩
  have HLD := Hi hL1
  rw [← hL1] at IR0 HL4 hm256 ⊢
  obtain ⟨m, hm⟩ : ∃ m, m = L.length := ⟨_, rfl⟩
  have HM := Hi hm
  rw [← hm] at IR0 hm256 ⊢
  clear hm hL1 hrow hx hcm
  go_wp2_with fail
  go_loopw [6, 7] (fun v i wr => ∃ (k : Nat) (rv : Value) (ys : List Vt), k ≤ n ∧ k ≤ 4 ∧ k ≤ m ∧ i = .int .i64 k ∧ rv = v ∧ Hid (IRow wr w.heap.size (.slice adI m capI) L) ∧ Hid (VRow wr w.heap.size rv ys) ∧ Hid (ys.length = k ∧ ys.map (fun y => y.id) = L.take k ∧ ∀ y ∈ ys, y.ct.right = true) ∧ Hid (Ex w wr)) (fun _ i _ => 4 - (intOf i).toNat)
  case atStart => exact ⟨0, _, [], by omega, by omega, by omega, rfl, rfl, IR0, Hi (VRow.nil _ _), Hi ⟨rfl, rfl, fun y hy => by cases hy⟩, BX0⟩
  clear IR0 BX0
  obtain ⟨k, rv, ys, hk, hk4, hkm, rfl, rfl, IR, VR, HY, BX⟩ := hrel
  have q0 : (0 : Int) ≤ (k : Int) := by omega
  by_cases h1 : k < n
  rotate_left
  · have q1 : ¬ (k : Int) < (n : Int) := by omega
    go_wp2_with fail
    go_ret
    exact ⟨_, ys, rfl, VR.out, by rw [HY.out.1]; exact hk4, by rw [HY.out.1, ← HLD.out]; exact HY.out.2.1, HY.out.2.2, BX.out⟩
  have q1 : (k : Int) < (n : Int) := by omega
  by_cases h2 : k < 4
  rotate_left
  · have q2 : ¬ (k : Int) < 4 := by omega
    go_wp2_with fail
    go_ret
    exact ⟨_, ys, rfl, VR.out, by rw [HY.out.1]; exact hk4, by rw [HY.out.1, ← HLD.out]; exact HY.out.2.1, HY.out.2.2, BX.out⟩
  have q2 : (k : Int) < 4 := by omega
  by_cases h3 : k < m
  rotate_left
  · have q3 : ¬ (k : Int) < (m : Int) := by omega
    go_wp2_with fail
    go_ret
    exact ⟨_, ys, rfl, VR.out, by rw [HY.out.1]; exact hk4, by rw [HY.out.1, ← HLD.out]; exact HY.out.2.1, HY.out.2.2, BX.out⟩
  have q3 : (k : Int) < (m : Int) := by omega
  obtain ⟨ab, ofs, rfl, hab, hcc⟩ := HIN.out.read (by rw [← HN.out]; omega)
  obtain ⟨x, hx⟩ : ∃ x, l[k]? = some x := ⟨_, List.getElem?_eq_getElem (by rw [← HN.out]; exact h1)⟩
  have XI := Hi (HIN.out.ins k x hx)
  have XRG : Hid (∀ wq, Ex w wq → wq.rangeAt ab (ofs + k * 8) x.C) := Hi (fun wq e j u hu => (Below.cell (p := ⟨ab, ofs + k * 8 + j, none⟩) e hab).trans (hcc k x hx j u hu))
  clear hcc hx hab
  obtain ⟨ib, io, rfl, hib, hii⟩ := IR.out.read HL4.out (by rw [← HM.out]; omega)
  obtain ⟨X, hX⟩ : ∃ X, L[k]? = some X := ⟨_, List.getElem?_eq_getElem (by rw [← HM.out]; exact h3)⟩
  have X4 := Hi (HL4.out X (List.mem_of_getElem? hX))
  have IRG : Hid (∀ wq, Ex wr wq → wq.rangeAt ib (io + k * 4) (Lib.byteCells X)) := Hi (fun wq e j u hu => (Below.cell (p := ⟨ib, io + k * 4 + j, none⟩) e hib).trans (hii k X hX j u hu))
  have HX := Hi hX
  clear hii hX hib
  go_wp2_with fail
  have hS0 : ∀ (listed : Array Bool) (f : Nat → Value), (∀ i, listed.getD i false = false) → SV w wr X ys listed f wr.drew := fun _ _ h0 => SV.start h0 (Below.refl wr.heap.size wr).drew BX.out
  obtain ⟨T, hT⟩ : ∃ T : List (Value → Prop), T = [(fun zz => zz = rv), (fun zz => zz = .slice (some ⟨ab, ofs, none⟩) n cap), (fun zz => zz = .int .i64 (k : Int)), (fun zz => zz = .pointer (some ⟨ab, ofs + k * 8, none⟩)), (fun zz => zz = x.V), (fun zz => zz = .slice (some ⟨ib, io, none⟩) m capI), (fun zz => zz = .int .i64 (k : Int)), (fun zz => zz = .pointer (some ⟨ib, io + k * 4, none⟩)), (fun zz => zz = digV X), (fun _ => True), (fun _ => True), (fun _ => True), (fun _ => True)] := ⟨_, rfl⟩
  refine wp_region_gen (JS T ([(9, 8), (10, 9), (11, 10), (12, 11)] : List (Nat × Nat)) (fun lz fz wq => SV w wr X ys lz fz wq)) (by kernel_rfl) (by kernel_rfl) (by kernel_rfl) (fitB_spec (by kernel_rfl)) (fun listed f h => JS.start listed f h (hS0 listed f h)) ?_ ?_
  · intro i o ho
    have hi : i < 13 := (Array.getElem?_eq_some_iff.1 ho).1
    have hi' : i = 0 ∨ i = 1 ∨ i = 2 ∨ i = 3 ∨ i = 4 ∨ i = 5 ∨ i = 6 ∨ i = 7 ∨ i = 8 ∨ i = 9 ∨ i = 10 ∨ i = 11 ∨ i = 12 := by omega
    clear hi
    rcases hi' with rfl | rfl | rfl | rfl | rfl | rfl | rfl | rfl | rfl | rfl | rfl | rfl | rfl
    all_goals (simp only [List.getElem?_toArray, List.getElem?_cons_zero, List.getElem?_cons_succ, Option.some.injEq] at ho; subst ho; intro listed f a w3 hJ hsz hls hun hdep hout hlat; first | (rw [if_pos (by rfl)]; intro K hK) | skip)
    · have q6 := hlat 6 12 _ rfl rfl ⟨⟨0, .phase⟩, by simp, rfl, rfl⟩
      have hord : ∀ x ∈ ([(9, 8), (10, 9), (11, 10), (12, 11)] : List (Nat × Nat)), x.1 = 0 → listed.getD x.2 false = true := (by intro x hx he; simp only [List.mem_cons, List.not_mem_nil, or_false] at hx; rcases hx with rfl | rfl | rfl | rfl; all_goals first | (exact absurd he (by decide)) | assumption)
      refine wp_mv _ rfl (hK _ _ ?_)
      rw [show a.eval (.tmp 6) = rv from q6]
      exact hJ.nx hls hT rfl rfl (SV.plain hJ.st 0 (by decide)) hord
    · have q0 := hout 0 (outB_spec (by kernel_rfl))
      have hord : ∀ x ∈ ([(9, 8), (10, 9), (11, 10), (12, 11)] : List (Nat × Nat)), x.1 = 1 → listed.getD x.2 false = true := (by intro x hx he; simp only [List.mem_cons, List.not_mem_nil, or_false] at hx; rcases hx with rfl | rfl | rfl | rfl; all_goals first | (exact absurd he (by decide)) | assumption)
      refine wp_mv _ rfl (hK _ _ ?_)
      rw [show a.eval (.tmp 0) = .slice (some ⟨ab, ofs, none⟩) n cap from q0]
      exact hJ.nx hls hT rfl rfl (SV.plain hJ.st 1 (by decide)) hord
    · have q7 := hout 7 (outB_spec (by kernel_rfl))
      have hord : ∀ x ∈ ([(9, 8), (10, 9), (11, 10), (12, 11)] : List (Nat × Nat)), x.1 = 2 → listed.getD x.2 false = true := (by intro x hx he; simp only [List.mem_cons, List.not_mem_nil, or_false] at hx; rcases hx with rfl | rfl | rfl | rfl; all_goals first | (exact absurd he (by decide)) | assumption)
      refine wp_mv _ rfl (hK _ _ ?_)
      rw [show a.eval (.tmp 7) = .int .i64 (k : Int) from q7]
      exact hJ.nx hls hT rfl rfl (SV.plain hJ.st 2 (by decide)) hord
    · have q27 := hJ.is hT (hdep ⟨1, .data⟩ (by simp) rfl) rfl _ rfl _ rfl
      have q28 := hJ.is hT (hdep ⟨2, .data⟩ (by simp) rfl) rfl _ rfl _ rfl
      have hord : ∀ x ∈ ([(9, 8), (10, 9), (11, 10), (12, 11)] : List (Nat × Nat)), x.1 = 3 → listed.getD x.2 false = true := (by intro x hx he; simp only [List.mem_cons, List.not_mem_nil, or_false] at hx; rcases hx with rfl | rfl | rfl | rfl; all_goals first | (exact absurd he (by decide)) | assumption)
      rw [Array.getD_eq_getD_getElem?] at q27
      rw [Array.getD_eq_getD_getElem?] at q28
      clear hsz hdep hout hlat
      go_simp
      exact hK _ _ (hJ.nx hls hT rfl (by first | rfl | exact congrArg (Value.int .i64) (by omega) | exact congrArg (Value.int .i64) (by rw [IntKind.wrap_i64]; omega) | exact congrArg Value.bool (decide_eq_false (by omega)) | exact congrArg Value.bool (decide_eq_true (by omega)) | exact congrArg (Value.int .u64) (by omega)) (SV.plain hJ.st 3 (by decide)) hord)
    · have q29 := hJ.is hT (hdep ⟨3, .data⟩ (by simp) rfl) rfl _ rfl _ rfl
      have hord : ∀ x ∈ ([(9, 8), (10, 9), (11, 10), (12, 11)] : List (Nat × Nat)), x.1 = 4 → listed.getD x.2 false = true := (by intro x hx he; simp only [List.mem_cons, List.not_mem_nil, or_false] at hx; rcases hx with rfl | rfl | rfl | rfl; all_goals first | (exact absurd he (by decide)) | assumption)
      exact ld_kv _ ab (ofs + k * 8) x rfl q29 (XRG.out _ hJ.st.exw) (hK _ _ (hJ.nx hls hT rfl rfl (SV.plain hJ.st 4 (by decide)) hord))
    · have q5 := hout 5 (outB_spec (by kernel_rfl))
      have hord : ∀ x ∈ ([(9, 8), (10, 9), (11, 10), (12, 11)] : List (Nat × Nat)), x.1 = 5 → listed.getD x.2 false = true := (by intro x hx he; simp only [List.mem_cons, List.not_mem_nil, or_false] at hx; rcases hx with rfl | rfl | rfl | rfl; all_goals first | (exact absurd he (by decide)) | assumption)
      refine wp_mv _ rfl (hK _ _ ?_)
      rw [show a.eval (.tmp 5) = .slice (some ⟨ib, io, none⟩) m capI from q5]
      exact hJ.nx hls hT rfl rfl (SV.plain hJ.st 5 (by decide)) hord
    · have q7 := hout 7 (outB_spec (by kernel_rfl))
      have hord : ∀ x ∈ ([(9, 8), (10, 9), (11, 10), (12, 11)] : List (Nat × Nat)), x.1 = 6 → listed.getD x.2 false = true := (by intro x hx he; simp only [List.mem_cons, List.not_mem_nil, or_false] at hx; rcases hx with rfl | rfl | rfl | rfl; all_goals first | (exact absurd he (by decide)) | assumption)
      refine wp_mv _ rfl (hK _ _ ?_)
      rw [show a.eval (.tmp 7) = .int .i64 (k : Int) from q7]
      exact hJ.nx hls hT rfl rfl (SV.plain hJ.st 6 (by decide)) hord
    · have q31 := hJ.is hT (hdep ⟨5, .data⟩ (by simp) rfl) rfl _ rfl _ rfl
      have q32 := hJ.is hT (hdep ⟨6, .data⟩ (by simp) rfl) rfl _ rfl _ rfl
      have hord : ∀ x ∈ ([(9, 8), (10, 9), (11, 10), (12, 11)] : List (Nat × Nat)), x.1 = 7 → listed.getD x.2 false = true := (by intro x hx he; simp only [List.mem_cons, List.not_mem_nil, or_false] at hx; rcases hx with rfl | rfl | rfl | rfl; all_goals first | (exact absurd he (by decide)) | assumption)
      rw [Array.getD_eq_getD_getElem?] at q31
      rw [Array.getD_eq_getD_getElem?] at q32
      clear hsz hdep hout hlat
      go_simp
      exact hK _ _ (hJ.nx hls hT rfl (by first | rfl | exact congrArg (Value.int .i64) (by omega) | exact congrArg (Value.int .i64) (by rw [IntKind.wrap_i64]; omega) | exact congrArg Value.bool (decide_eq_false (by omega)) | exact congrArg Value.bool (decide_eq_true (by omega)) | exact congrArg (Value.int .u64) (by omega)) (SV.plain hJ.st 7 (by decide)) hord)
    · have q33 := hJ.is hT (hdep ⟨7, .data⟩ (by simp) rfl) rfl _ rfl _ rfl
      have hord : ∀ x ∈ ([(9, 8), (10, 9), (11, 10), (12, 11)] : List (Nat × Nat)), x.1 = 8 → listed.getD x.2 false = true := (by intro x hx he; simp only [List.mem_cons, List.not_mem_nil, or_false] at hx; rcases hx with rfl | rfl | rfl | rfl; all_goals first | (exact absurd he (by decide)) | assumption)
      have h11 : listed.getD 11 false = false := by
        cases hc : listed.getD 11 false with
        | false => rfl
        | true =>
          have hcx := hJ.ord (11, 10) (by simp) hc
          have hcxx := hJ.ord (10, 9) (by simp) hcx
          have hcxxx := hJ.ord (9, 8) (by simp) hcxx
          exact absurd hcxxx (by rw [hun]; decide)
      exact ld_idr _ ib (io + k * 4) X rfl q33 (IRG.out _ (hJ.st.ex h11)) X4.out (hK _ _ (hJ.nx hls hT rfl rfl (SV.plain hJ.st 8 (by decide)) hord))
    · have q30 := hJ.is hT (hdep ⟨4, .data⟩ (by simp) rfl) rfl _ rfl _ rfl
      have q34 := hJ.is hT (hdep ⟨8, .data⟩ (by simp) rfl) rfl _ rfl _ rfl
      have hl8 := (hdep ⟨8, .data⟩ (by simp) rfl).1
      have hord : ∀ x ∈ ([(9, 8), (10, 9), (11, 10), (12, 11)] : List (Nat × Nat)), x.1 = 9 → listed.getD x.2 false = true := (by intro x hx he; simp only [List.mem_cons, List.not_mem_nil, or_false] at hx; rcases hx with rfl | rfl | rfl | rfl; all_goals first | (exact absurd he (by decide)) | assumption)
      have h11 : listed.getD 11 false = false := by
        cases hc : listed.getD 11 false with
        | false => rfl
        | true =>
          have hcx := hJ.ord (11, 10) (by simp) hc
          have hcxx := hJ.ord (10, 9) (by simp) hcx
          exact absurd hcxx (by rw [hun]; decide)
      have h12 : listed.getD 12 false = false := by
        cases hc : listed.getD 12 false with
        | false => rfl
        | true =>
          have hcx := hJ.ord (12, 11) (by simp) hc
          have hcxx := hJ.ord (11, 10) (by simp) hcx
          have hcxxx := hJ.ord (10, 9) (by simp) hcxx
          exact absurd hcxxx (by rw [hun]; decide)
      rw [Array.getD_eq_getD_getElem?] at q30
      rw [Array.getD_eq_getD_getElem?] at q34
      have hst := hJ.st
      clear hsz hdep hout hlat
      go_simp
      refine (kv_any x X (by have := X4.out; rwa [byteCells_len] at this) w3 (XI.out.ext hst.exw)).mono ?_
      rintro e wq ⟨y, rfl, hy1, hy3, hy2, xq⟩
      exact hK _ _ (hJ.nx hls hT rfl (by trivial) (SV.call hst h11 h12 xq ⟨y, rfl, hy1, hy3, hy2⟩) hord)
    · have dd35 := hdep ⟨9, .data⟩ (by simp) rfl
      have q35 := dd35.2 _ rfl _ rfl
      have hl9 := (hdep ⟨9, .data⟩ (by simp) rfl).1
      have hord : ∀ x ∈ ([(9, 8), (10, 9), (11, 10), (12, 11)] : List (Nat × Nat)), x.1 = 10 → listed.getD x.2 false = true := (by intro x hx he; simp only [List.mem_cons, List.not_mem_nil, or_false] at hx; rcases hx with rfl | rfl | rfl | rfl; all_goals first | (exact absurd he (by decide)) | assumption)
      have h11 : listed.getD 11 false = false := by
        cases hc : listed.getD 11 false with
        | false => rfl
        | true =>
          have hcx := hJ.ord (11, 10) (by simp) hc
          exact absurd hcx (by rw [hun]; decide)
      have h12 : listed.getD 12 false = false := by
        cases hc : listed.getD 12 false with
        | false => rfl
        | true =>
          have hcx := hJ.ord (12, 11) (by simp) hc
          have hcxx := hJ.ord (11, 10) (by simp) hcx
          exact absurd hcxx (by rw [hun]; decide)
      have hst := hJ.st
      have hl9 := (hdep ⟨9, .data⟩ (by simp) rfl).1
      obtain ⟨z, hz, hz1, hz2, hz3⟩ := hst.c hl9 h11
      rw [hz] at q35
      exact wp_bsv _ z hz1.ok rfl q35 (hK _ _ (hJ.nx hls hT rfl (by trivial) (SV.bs hst h11 h12 (Ex.alloc _ _) ⟨z, w3.heap.size, rfl, Bk.new rfl _ _, hz1.ext (Ex.alloc _ _), hz2, hz3⟩) hord))
    · have q26 := hJ.is hT (hdep ⟨0, .data⟩ (by simp) rfl) rfl _ rfl _ rfl
      have dd36 := hdep ⟨10, .data⟩ (by simp) rfl
      have q36 := dd36.2 _ rfl _ rfl
      have hl10 := (hdep ⟨10, .data⟩ (by simp) rfl).1
      have hord : ∀ x ∈ ([(9, 8), (10, 9), (11, 10), (12, 11)] : List (Nat × Nat)), x.1 = 11 → listed.getD x.2 false = true := (by intro x hx he; simp only [List.mem_cons, List.not_mem_nil, or_false] at hx; rcases hx with rfl | rfl | rfl | rfl; all_goals first | (exact absurd he (by decide)) | assumption)
      have h12 : listed.getD 12 false = false := by
        cases hc : listed.getD 12 false with
        | false => rfl
        | true =>
          have hcx := hJ.ord (12, 11) (by simp) hc
          exact absurd hcx (by rw [hun]; decide)
      have hst := hJ.st
      have hl10 := (hdep ⟨10, .data⟩ (by simp) rfl).1
      obtain ⟨z, g, hz, hb, hz1, hz2, hz3⟩ := hst.b hl10 hun
      rw [hz] at q36
      obtain ⟨adx, ex, _, rx⟩ := Many.rd (n := 1) (sz := 42) ⟨g, rfl, hb⟩ (Vt.len hz1.ok)
      cases ex
      have hv3 := VR.out.ext (hst.ex hun)
      exact wp_rd _ _ 37 36 zeroVt.V 42 96 rfl Try.underlying37 Try.infoVt rfl (by decide) w.heap.size ys.length rv _ q26 hv3.row (Below.size hst.exw) _ 1 1 _ q36 rx (Nat.le_refl _) (fun h => by cases h) (Vt.C_one z) (by have := HY.out.1; omega) (by have := HY.out.1; omega) (fun v5 w5 r1 r2 => hK _ _ (hJ.nx hls hT rfl (by trivial) (SV.app (by rw [hls]; decide) h12 (Below.trans hst.exw r2.below) ⟨z, hv3.app r2 r1 hz1, hz2, hz3, (Ex.kt (hst.ex hun) (Below.size BX.out)).trans r2⟩) hord))
    have dd37 := hdep ⟨11, .data⟩ (by simp) rfl
    have q37 := dd37.2 _ rfl _ rfl
    have hl11 := (hdep ⟨11, .data⟩ (by simp) rfl).1
    have hord : ∀ x ∈ ([(9, 8), (10, 9), (11, 10), (12, 11)] : List (Nat × Nat)), x.1 = 12 → listed.getD x.2 false = true := (by intro x hx he; simp only [List.mem_cons, List.not_mem_nil, or_false] at hx; rcases hx with rfl | rfl | rfl | rfl; all_goals first | (exact absurd he (by decide)) | assumption)
    have e11 := q37
    rw [Array.getD_eq_getD_getElem?] at q37
    clear hsz hdep hout hlat
    go_simp
    exact hK _ _ (hJ.nx hls hT rfl (by trivial) (SV.asg hJ.st) hord)
  intro listed f w3 hall hJ
  have hst := hJ.st
  simp only [putAll, Act.put, List.setIfInBounds_toArray, List.set_cons_zero, List.set_cons_succ, Nat.zero_add, Nat.reduceAdd]
  obtain ⟨z, hz, hz2, hz3, hkt⟩ := hst.fin (hall 11 (by simp))
  rw [hst.val (hall 12 (by simp))]
  replace BX : Hid (Ex w w3) := Hi hst.exw
  replace IR : Hid (IRow w3 w.heap.size (.slice (some ⟨ib, io, none⟩) m capI) L) := Hi (hkt.row IR.out (by decide))
  have HV := Hi hz
  replace HY : Hid ((ys ++ [z]).length = k + 1 ∧ (ys ++ [z]).map (fun y => y.id) = L.take (k + 1) ∧ ∀ y ∈ ys ++ [z], y.ct.right = true) := Hi ⟨by rw [List.length_append, HY.out.1]; rfl, by rw [List.map_append, HY.out.2.1, List.take_add_one, HX.out]; simp [hz2], fun y hy => by
    rcases List.mem_append.1 hy with hy | hy
    · exact HY.out.2.2 y hy
    · rw [List.mem_singleton.1 hy]; exact hz3⟩
  clear hst hS0 hz hz2 hz3 hkt XI XRG IRG VR HX X4
  clear hJ hall hT
  generalize f 0 = y0
  generalize f 1 = y1
  generalize f 2 = y2
  generalize f 3 = y3
  generalize f 4 = y4
  generalize f 5 = y5
  generalize f 6 = y6
  generalize f 7 = y7
  generalize f 8 = y8
  generalize f 9 = y9
  generalize f 10 = y10
  generalize f 12 = y12
  generalize f 11 = v11 at HV ⊢
  go_wp2_with fail
  (first | (refine ⟨?_, ?measure⟩; (repeat apply Exists.intro); refine ⟨?rel, rfl⟩) | refine ⟨?rel, ?measure⟩)
  case rel => exact ⟨k + 1, _, _, by omega, by omega, by omega, by go_num, rfl, IR, HV, HY, BX⟩
  case measure => simp [intOf]; omega
end Go.Proofs.Ytmjfnpmnhehnkaa
namespace Go.Proofs.Ytmjfnpmnhehnkaa
open Go.RowKit
end Go.Proofs.Ytmjfnpmnhehnkaa
namespace Go.Proofs.Ytmjfnpmnhehnkaa
open Go.RowKit
end Go.Proofs.Ytmjfnpmnhehnkaa
namespace Go.Proofs.Ytmjfnpmnhehnkaa
open Go.RowKit
theorem right_gen {v : Vc} (h : v.right = true) : 1 ≤ v.gen ∧ v.gen ≤ 1099511627776 := by
 unfold Vc.right at h
 rw [Bool.and_eq_true, decide_eq_true_eq] at h
 exact h.1
/-- a vault of an ID, or none -/
def Kept (id : List UInt8) (v : Vc) : Prop := v = zeroVc ∨ (v.right = true ∧ v.id = id)
/-- a row of what is drawn for requests -/
structure Kp.In (ad : Option Addr) (cap : Nat) (l : List Kq) (w : World) : Prop where
 len : l.length ≤ cap
 nil : ad = none → cap = 0
 ins : ∀ (i : Nat) (x : Kq), l[i]? = some x → x.In w
 read : 0 < l.length → ∃ a o, ad = some ⟨a, o, none⟩ ∧ a < w.heap.size ∧ ∀ (i : Nat) (x : Kq), l[i]? = some x → w.rangeAt a (o + i * 8) x.C
theorem Kp.In.ext {ad : Option Addr} {cap : Nat} {l : List Kq} {w w' : World} (h : Kp.In ad cap l w) (k : Ex w w') : Kp.In ad cap l w' :=
 ⟨h.len, h.nil, fun i x hx => (h.ins i x hx).ext k, fun h0 => by
  obtain ⟨a, o, e, hB, hc⟩ := h.read h0
  exact ⟨a, o, e, Nat.lt_of_lt_of_le hB k.sz, fun i x hx j v hv => (Below.cell (p := ⟨a, o + i * 8 + j, none⟩) k hB).trans (hc i x hx j v hv)⟩⟩
/-- what Do does: kept anew; refused; told; a wrong guess; removed -/
inductive Kind (v : Vc) (q : Qc) : Vc → Rc → Bool → Prop
 | fresh (ho : q.op = 1 ∨ q.op = 3) (hg : v.gen < 1099511627776) : Kind v q (freshC v q) ⟨0, q.id, v.gen + 1, (freshC v q).left, [], q.client, q.num⟩ true
 | refused (e : Int) (h0 : e ≠ 0) (h23 : e ≠ 23) : Kind v q v ⟨e, q.id, v.gen, 0, [], q.client, q.num⟩ false
 | told (ho : q.op = 2) (hv : v.right = true) (hg : v.gone = false) (hp : q.pin = v.pin) : Kind v q v ⟨0, q.id, v.gen, v.left, v.sec, q.client, q.num⟩ false
 | wrong (ho : q.op = 2) (hv : v.right = true) (hg : v.gone = false) : Kind v q (wrongC v) ⟨23, q.id, v.gen, (wrongC v).left, [], q.client, q.num⟩ true
 | removed (ho : q.op = 4) (hv : v.right = true) (hg : v.gone = false) : Kind v q (goneC v.id v.gen false) ⟨0, q.id, v.gen, 0, [], q.client, q.num⟩ true
theorem Kept.gen {id : List UInt8} {v : Vc} (h : Kept id v) : 0 ≤ v.gen ∧ v.gen ≤ 1099511627776 := by
 rcases h with h | ⟨h, _⟩
 ·rw [h]; exact ⟨Int.le_refl _, by show (0 : Int) ≤ _; decide⟩
 have := right_gen h; omega
end Go.Proofs.Ytmjfnpmnhehnkaa
namespace Go.Proofs.Ytmjfnpmnhehnkaa
open Go.RowKit
end Go.Proofs.Ytmjfnpmnhehnkaa
namespace Go.Proofs.Ytmjfnpmnhehnkaa
open Go.RowKit
theorem VRow.other {w w' : World} {D' B : Nat} {v rv' : Value} {xs vs' : List Vt} (h : VRow w B v xs) (h' : TB w D' rv' vs') (k : Tc D' rv'.ownBlock w w') (hr : Djn v rv') : VRow w' B v xs := by
 have hrow := h'.row.blk
 have keep : ∀ x, TVN w x → TVN w' x := fun x hx => by
  rcases hrow with e | ⟨gb, e, _, _, hb⟩
  ·exact hx.tc (gb := 0) k h'.blk (Or.inl e)
  ·exact hx.tc k h'.blk (Or.inr ⟨e, hb⟩)
 refine ⟨⟨h.row.1, h.row.2.imp id fun ⟨g, cap, cur, hv, hB, hg, hrest⟩ => ⟨g, cap, cur, hv, hB, ?_, hrest⟩⟩, fun i x hx => keep x (h.ins i x hx)⟩
 exact (show Bk w' g 36 cur from k.bk hg (fun e => by subst e; exact h'.D_ne hg rfl) (fun e => hr g (by rw [hv]; rfl) e.symm))
theorem VRow.inn3 {w : World} {B : Nat} {v : Value} {xs : List Vt} (h : VRow w B v xs) : ∃ ad cap, v = .slice ad xs.length cap ∧ Vp.In ad cap xs w ∧ cap ≤ 9223372036854775807 := by
 obtain ⟨ad, cap, e, hin⟩ := h.inn
 obtain ⟨ad2, cap2, e2, _, _, hc, _⟩ := own_rd h.row
 rw [e] at e2; cases e2
 exact ⟨ad, cap, e, hin, hc⟩
end Go.Proofs.Ytmjfnpmnhehnkaa
namespace Go.Proofs.Ytmjfnpmnhehnkaa
open Go.RowKit
structure LO (w0 wb w : World) (B : Nat) (D : Nat → Nat) (r : Nat → Value) (v : Nat → List Vt) (B2 M2 : Nat) (m2 : Int) (p2 : Nat → Pa) (D2 : Nat → Nat) (r2 : Nat → Value) (v2 : Nat → List Vt) (tv : Value) (us : List Vt) : Prop where
  ts : TS w B 16 D r v
  s2 : SS w B2 M2 m2 2 p2 D2 r2 v2
  ap : Apart D r D2 r2
  row : VRow w w0.heap.size tv us
  d1 : ∀ i, i < 16 → Djn tv (r i)
  d2 : ∀ i, i < 16 → Djn tv (r2 i)
  ex : Ex w0 w
  lo : w0.heap.size ≤ B
  kp : ∀ (g : Nat) (cs : Array Value), Bk wb g 42 cs → Bk w g 42 cs
section
variable {w0 wb w w' : World} {B M s : Nat} {m : Int} {p p' : Nat → Pa} {D : Nat → Nat} {r : Nat → Value} {v : Nat → List Vt} {B2 M2 : Nat} {m2 : Int} {p2 : Nat → Pa} {D2 : Nat → Nat} {r2 : Nat → Value} {v2 : Nat → List Vt} {tv r' : Value} {us ls : List Vt}
theorem LO.md (h : LO w0 wb w B D r v B2 M2 m2 p2 D2 r2 v2 tv us) {cs : Array Value} (hb : Bk w M 115 cs) (k : Md M w w') (hne : M ≠ M2) (hlo : w0.heap.size ≤ M) : LO w0 wb w' B D r v B2 M2 m2 p2 D2 r2 v2 tv us := by
  have kt : Kt [115] w0.heap.size w w' := Kt.md k hlo hb (List.mem_singleton.2 rfl)
  exact ⟨h.ts.kts kt (by decide) (by decide) (by decide), ⟨k.bk h.s2.blk (Ne.symm hne), h.s2.ts.kts kt (by decide) (by decide) (by decide), h.s2.ok, h.s2.mok⟩, h.ap, ⟨kt.row h.row.row (by decide), fun i x hx => (h.row.ins i x hx).kt kt (by decide)⟩, h.d1, h.d2, k.ex h.ex hlo, h.lo, fun g cs hg => kt.bk (h.kp g cs hg) (by decide)⟩
theorem LO.fresh (h : LO w0 wb w B D r v B2 M2 m2 p2 D2 r2 v2 tv us) (hs : s < 16) (hl : Lies w (r s) r') : Apart D (updF r s r') D2 r2 ∧ ∀ i, i < 16 → Djn tv (updF r s r' i) := by
  refine ⟨⟨h.ap.dd, fun i j hi hj => ?_⟩, fun i hi => ?_⟩
  · by_cases e : i = s
    · subst e
      rw [updF_same]
      intro g hg hg2
      rcases hl with h1 | h1
      · exact h.ap.rr i j hi hj g (h1 ▸ hg) hg2
      have h3 := h1 g hg
      have h4 := ((h.s2.ts.tb j hj).row.row.lt g hg2).2
      omega
    rw [updF_ne _ _ e]; exact h.ap.rr i j hi hj
  by_cases e : i = s
  · subst e
    rw [updF_same]
    intro g hg hg2
    rcases hl with h1 | h1
    · exact h.d1 i hi g hg (h1 ▸ hg2)
    have h3 := h1 g hg2
    have h4 := (h.row.row.lt g hg).2
    omega
  rw [updF_ne _ _ e]; exact h.d1 i hi
theorem LO.tc (h : LO w0 wb w B D r v B2 M2 m2 p2 D2 r2 v2 tv us) (hs : s < 16) (k : Tc (D s) (r s).ownBlock w w') (ht : TS w' B 16 D (updF r s r') (updF v s ls)) (hf : Apart D (updF r s r') D2 r2 ∧ ∀ i, i < 16 → Djn tv (updF r s r' i)) : LO w0 wb w' B D (updF r s r') (updF v s ls) B2 M2 m2 p2 D2 r2 v2 tv us := by
  have hb := h.ts.tb s hs
  exact ⟨ht, ⟨k.kt9 hb h.s2.blk (by decide) (by decide), ⟨fun i hi => (h.s2.ts.tb i hi).other hb k (fun e => h.ap.dd s i hs hi e.symm) (h.ap.rr s i hs hi).symm, h.s2.ts.lo, h.s2.ts.dd, h.s2.ts.rr⟩, h.s2.ok, h.s2.mok⟩, hf.1, h.row.other hb k (h.d1 s hs), hf.2, h.d2, k.ex9 hb h.ex (Nat.le_trans h.lo (h.ts.lo s hs)), h.lo, fun g cs hg => k.kt9 hb (h.kp g cs hg) (by decide) (by decide)⟩
end
structure LV (w0 wb w : World) (B M : Nat) (m : Int) (p : Nat → Pa) (D : Nat → Nat) (r : Nat → Value) (v : Nat → List Vt) (B2 M2 : Nat) (m2 : Int) (p2 : Nat → Pa) (D2 : Nat → Nat) (r2 : Nat → Value) (v2 : Nat → List Vt) (tv : Value) (us : List Vt) : Prop where
  o : LO w0 wb w B D r v B2 M2 m2 p2 D2 r2 v2 tv us
  s1 : SS w B M m 2 p D r v
  ne : M ≠ M2
  lo : w0.heap.size ≤ M ∧ w0.heap.size ≤ M2 ∧ w0.heap.size ≤ B2
section
variable {w0 wb w w' : World} {B M s : Nat} {m : Int} {p p' : Nat → Pa} {D : Nat → Nat} {r : Nat → Value} {v : Nat → List Vt} {B2 M2 : Nat} {m2 : Int} {p2 : Nat → Pa} {D2 : Nat → Nat} {r2 : Nat → Value} {v2 : Nat → List Vt} {tv r' : Value} {us ls : List Vt}
theorem LV.ext (h : LV w0 wb w B M m p D r v B2 M2 m2 p2 D2 r2 v2 tv us) (k : Ex w w') : LV w0 wb w' B M m p D r v B2 M2 m2 p2 D2 r2 v2 tv us :=
  ⟨⟨h.o.ts.ext k, h.o.s2.ext k, h.o.ap, h.o.row.ext k, h.o.d1, h.o.d2, Ex.trans h.o.ex k, h.o.lo, fun g cs hg => (h.o.kp g cs hg).ext k⟩, h.s1.ext k, h.ne, h.lo⟩
theorem LV.base (h : LV w0 wb w B M m p D r v B2 M2 m2 p2 D2 r2 v2 tv us) : LV w0 w w B M m p D r v B2 M2 m2 p2 D2 r2 v2 tv us :=
  ⟨⟨h.o.ts, h.o.s2, h.o.ap, h.o.row, h.o.d1, h.o.d2, h.o.ex, h.o.lo, fun _ _ hg => hg⟩, h.s1, h.ne, h.lo⟩
theorem LV.md (h : LV w0 wb w B M m p D r v B2 M2 m2 p2 D2 r2 v2 tv us) (k : Md M w w') (hs : SS w' B M m 2 p' D r v) : LV w0 wb w' B M m p' D r v B2 M2 m2 p2 D2 r2 v2 tv us :=
  ⟨h.o.md h.s1.blk k h.ne h.lo.1, hs, h.ne, h.lo⟩
theorem LV.tc (h : LV w0 wb w B M m p D r v B2 M2 m2 p2 D2 r2 v2 tv us) (hs : s < 16) (k : Tc (D s) (r s).ownBlock w w') (h1 : SS w' B M m 2 p' D (updF r s r') (updF v s ls)) (hl : Lies w (r s) r') : LV w0 wb w' B M m p' D (updF r s r') (updF v s ls) B2 M2 m2 p2 D2 r2 v2 tv us :=
  ⟨h.o.tc hs k h1.ts (h.o.fresh hs hl), h1, h.ne, h.lo⟩
end
end Go.Proofs.Ytmjfnpmnhehnkaa
namespace Go.Proofs.Ytmjfnpmnhehnkaa
open Go.RowKit
theorem mem_ct {ys us : List Vt} (h : ys.map Vt.ct = us.map Vt.ct) {y : Vt} (hy : y ∈ ys) : ∃ u, u ∈ us ∧ y.ct = u.ct := by
  have h1 : y.ct ∈ us.map Vt.ct := by rw [← h]; exact List.mem_map_of_mem hy
  obtain ⟨u, hu, e⟩ := List.mem_map.1 h1
  exact ⟨u, hu, e.symm⟩
structure UsOK (s : Int) (us : List Vt) : Prop where
  ris : Rising us
  sh : AllOf us s
theorem UsOK.of {s : Int} {ys us : List Vt} (h : ys.map Vt.ct = us.map Vt.ct) (k : UsOK s us) : UsOK s ys := by
  have hl : ys.length = us.length := by have := congrArg List.length h; simpa using this
  refine ⟨⟨by rw [hl]; exact k.ris.1, fun i x hx => ?_, fun i hi => ?_⟩, fun x hx => ?_⟩
  · obtain ⟨u, hu, e⟩ := mem_ct h (List.mem_of_getElem? hx)
    obtain ⟨j, hj, e2⟩ := List.getElem_of_mem hu
    rw [e]; exact k.ris.2.1 j u (by rw [List.getElem?_eq_getElem hj, e2])
  · rw [idF_ct h, idF_ct h]; exact k.ris.2.2 i (by rw [← hl]; exact hi)
  obtain ⟨u, hu, e⟩ := mem_ct h hx
  rw [show x.id = u.id from congrArg Vc.id e]; exact k.sh u hu
def rkO (s t e : Int) : Rk := ⟨2, s, t, e, zeroVt, none, 0, []⟩
def rkI (s e : Int) (ad : Option Addr) (cap : Nat) (l : List Vt) : Rk := ⟨3, s, 0, e, zeroVt, ad, cap, l⟩
def rkD (s e : Int) : Rk := ⟨4, s, 0, e, zeroVt, none, 0, []⟩
set_option maxRecDepth 100000 in
theorem built_rkO (s t e : Int) : Try.prog.built 39 [(0, .int .i64 2), (1, .int .i64 s), (2, .int .i64 t), (3, .int .u64 e)] = some (rkO s t e).C.toArray := by kernel_rfl
set_option maxRecDepth 100000 in
theorem built_rkI (s e : Int) (ad : Option Addr) (cap : Nat) (l : List Vt) : Try.prog.built 39 [(0, .int .i64 3), (1, .int .i64 s), (3, .int .u64 e), (5, .slice ad l.length cap)] = some (rkI s e ad cap l).C.toArray := by kernel_rfl
set_option maxRecDepth 100000 in
theorem built_rkD (s e : Int) : Try.prog.built 39 [(0, .int .i64 4), (1, .int .i64 s), (3, .int .u64 e)] = some (rkD s e).C.toArray := by kernel_rfl
end Go.Proofs.Ytmjfnpmnhehnkaa
namespace Go.Proofs.Ytmjfnpmnhehnkaa
open Go.RowKit
end Go.Proofs.Ytmjfnpmnhehnkaa
namespace Go.Proofs.Ytmjfnpmnhehnkaa
open Go.RowKit
theorem Rc.eq_iff (a b : Rc) : a = b ↔ (a.why = b.why ∧ a.id = b.id ∧ a.gen = b.gen ∧ a.left = b.left ∧ a.sec = b.sec ∧ a.client = b.client ∧ a.num = b.num) := by
 cases a; cases b; simp
instance : DecidableEq Rc := fun a b => decidable_of_iff _ (Rc.eq_iff a b).symm
end Go.Proofs.Ytmjfnpmnhehnkaa
namespace Go.Proofs.Ytmjfnpmnhehnkaa
open Go.RowKit
theorem ld_vid9 {o : Oper} {a : Act} {w : World} {K : Act → World → Prop} {Q : Exit → Act → World → Prop} (y : Operand) (g off : Nat) (x : Vt) (hx : x.Ok) (ho : o.op = .load 32 y) (ha : a.eval y = .pointer (some ⟨g, off, none⟩)) (h : w.rangeAt g off x.C) (hk : K (a.put o.dst (digV x.id)) w) : o.wp Try.prog a w K Q := by
 obtain ⟨dd, hd⟩ : ∃ d, Try.prog.underlying 32 = some d ∧ d.isRow = true := ⟨_, Try.underlying32, rfl⟩
 refine wp_load_mid 32 y ho g off ha (Lib.byteCells x.id) dd (fun j u hu => h j u ?_) hd.1 hd.2 (by rw [Try.sizeId, byteCells_len, hx.idN]) hk
 have hj : j < (Lib.byteCells x.id).length := (List.getElem?_eq_some_iff.1 hu).1
 unfold Vt.C
 simp only [List.append_assoc]
 rw [List.getElem?_append_left hj]; exact hu
/-- bytes that lie in old memory, or in a block of bytes -/
def SK (w0 w : World) (p : Pt) : Prop := p.In w w0.heap.size ∨ PN w 0 p
theorem SK.inn {w0 w : World} {p : Pt} (h : SK w0 w p) (hs : w0.heap.size ≤ w.heap.size) : p.In w w.heap.size := by
 rcases h with h | h
 ·exact h.more hs
 exact h.1
theorem SK.ext {w0 w w' : World} {p : Pt} (h : SK w0 w p) (hs : w0.heap.size ≤ w.heap.size) (k : Ex w w') : SK w0 w' p := by
 rcases h with h | h
 ·exact Or.inl (h.keep (k.mono hs))
 exact Or.inr (h.ext k)
theorem SK.kt {S : List Nat} {w0 w w' : World} {p : Pt} (h : SK w0 w p) (k : Kt S w0.heap.size w w') (hu : 5 ∉ S) : SK w0 w' p := by
 rcases h with h | h
 ·exact Or.inl (h.keep k.below)
 exact Or.inr (h.kt k hu)
theorem SK.tc {w0 w w' : World} {p : Pt} {D : Nat} {rv : Value} {vs : List Vt} (h : SK w0 w p) (k : Tc D rv.ownBlock w w') (ht : TB w D rv vs) (hs : w0.heap.size ≤ w.heap.size) (lo : w0.heap.size ≤ D) : SK w0 w' p := by
 rcases h with h | h
 ·refine Or.inl (h.keep ⟨k.os, k.tape, k.output, k.size, fun i hi => k.block i (by omega) (by omega) (fun e => ?_)⟩)
  have := (ht.row.row.lt i e.symm).1
  omega
 exact Or.inr (h.tc9 k ht)
structure PX (w0 w : World) (x : Vt) : Prop where
 ok : x.Ok
 sec : SK w0 w x.sec
 len : x.sec.l.length ≤ 64
/-- the document's map: block P has a row of its own -/
structure PB (w0 w : World) (P : Nat) (rv : Value) (xs : List Vt) : Prop where
 blk : Bk w P 134 #[rv]
 row : w.ownsRow w0.heap.size 36 42 rv xs.length (xs.flatMap Vt.C)
 ins : ∀ (i : Nat) (x : Vt), xs[i]? = some x → PX w0 w x
 lo : w0.heap.size ≤ P
 sz : w0.heap.size ≤ w.heap.size
theorem PB.ext {w0 w w' : World} {P : Nat} {rv : Value} {xs : List Vt} (h : PB w0 w P rv xs) (k : Ex w w') : PB w0 w' P rv xs :=
 ⟨h.blk.ext k, k.row h.row, fun i x hx => ⟨(h.ins i x hx).ok, (h.ins i x hx).sec.ext h.sz k, (h.ins i x hx).len⟩, h.lo, Nat.le_trans h.sz (Below.size k)⟩
theorem PB.inn {w0 w : World} {P : Nat} {rv : Value} {xs : List Vt} (h : PB w0 w P rv xs) : ∃ ad cap, rv = .slice ad xs.length cap ∧ Vp.In ad cap xs w ∧ cap ≤ 9223372036854775807 := by
 have hok : ∀ (i : Nat) (x : Vt), xs[i]? = some x → x.Ok := fun i x hx => (h.ins i x hx).ok
 obtain ⟨ad2, cap2, e2, _, _, hc9, _⟩ := own_rd h.row
 obtain ⟨_, ⟨h1, ⟨hv, h0⟩ | ⟨g, cap, cur, rfl, hb, hh, hc, hm, hs, ht⟩⟩, _⟩ := h
 ·exact ⟨none, 0, by rw [h0]; exact hv, ⟨by rw [h0]; exact Nat.le_refl 0, fun _ => rfl, hok, fun h => by omega⟩, by decide⟩
 have hc9 : cap ≤ 9223372036854775807 := by cases e2; exact hc9
 refine ⟨some ⟨g, 0, none⟩, cap, rfl, ⟨hc, (fun h => by cases h), hok, fun _ => ⟨g, 0, rfl, (show Bk w g 36 cur from hh).lt, fun i x hx j u hu => ?_⟩⟩, hc9⟩
 have hil : i < xs.length := (List.getElem?_eq_some_iff.1 hx).1
 have hj : j < 42 := by have := (List.getElem?_eq_some_iff.1 hu).1; rw [Vt.len (hok i x hx)] at this; exact this
 have h3 := vflat_at xs hok i j x hx hj
 rw [← ht, hu, List.getElem?_take, if_pos (by omega)] at h3
 rw [(show Bk w g 36 cur from hh).cell, Nat.zero_add, ← Array.getElem?_toList]
 exact h3
/-- what get tells -/
def GetP (xs : List Vt) (id : List UInt8) (x : Vt) (k : Int) : Prop := (k = -1 ∧ x = zeroVt ∧ ∀ y ∈ xs, y.id ≠ id) ∨ ∃ j : Nat, k = (j : Int) ∧ xs[j]? = some x ∧ x.id = id
end Go.Proofs.Ytmjfnpmnhehnkaa
