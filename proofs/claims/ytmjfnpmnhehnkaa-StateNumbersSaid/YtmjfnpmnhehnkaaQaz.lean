/- Sr, Ss, Uk, Vlf -/
import Derived.Test.YtmjfnpmnhehnkaaQay
import Derived.Lib.SlBytesConst
set_option maxRecDepth 100000
set_option maxHeartbeats 16000000
namespace Go.Proofs.Ytmjfnpmnhehnkaa
open Go.RowKit
theorem IRow.read {w : World} {B m cap : Nat} {ad : Option Addr} {xs : List (List UInt8)} (h : IRow w B (.slice ad m cap) xs) (h4 : ∀ x ∈ xs, (Lib.byteCells x).length = 4) : 0 < xs.length → ∃ a o, ad = some ⟨a, o, none⟩ ∧ a < w.heap.size ∧ ∀ (i : Nat) (x : List UInt8), xs[i]? = some x → w.rangeAt a (o + i * 4) (Lib.byteCells x) := by
  obtain ⟨ad2, cap2, e, _, _, _, hr⟩ := own_rd h
  cases e
  exact gflat_back Lib.byteCells 4 h4 hr
theorem ld_idr {o : Oper} {a : Act} {w : World} {K : Act → World → Prop} {Q : Exit → Act → World → Prop} (y : Operand) (g off : Nat) (x : List UInt8) (ho : o.op = .load 32 y) (ha : a.eval y = .pointer (some ⟨g, off, none⟩)) (h : w.rangeAt g off (Lib.byteCells x)) (hx : (Lib.byteCells x).length = 4) (hk : K (a.put o.dst (digV x)) w) : o.wp Try.prog a w K Q := by
  obtain ⟨dd, hd⟩ : ∃ d, Try.prog.underlying 32 = some d ∧ d.isRow = true := ⟨_, Try.underlying32, rfl⟩
  exact wp_load_mid 32 y ho g off ha (Lib.byteCells x) dd h hd.1 hd.2 (by rw [Try.sizeId, hx]) hk
structure SV (w0 wr : World) (X : List UInt8) (ys : List Vt) (l : Array Bool) (f : Nat → Value) (wq : World) : Prop where
  exw : Ex w0 wq
  ex : l.getD 11 false = false → Ex wr wq
  c : l.getD 9 false = true → l.getD 11 false = false → ∃ z : Vt, f 9 = z.V ∧ TVN wq z ∧ z.id = X ∧ z.ct.right = true
  b : l.getD 10 false = true → l.getD 11 false = false → ∃ (z : Vt) (g : Nat), f 10 = .slice (some ⟨g, 0, none⟩) 1 1 ∧ Bk wq g 36 z.C.toArray ∧ TVN wq z ∧ z.id = X ∧ z.ct.right = true
  fin : l.getD 11 false = true → ∃ z : Vt, VRow wq w0.heap.size (f 11) (ys ++ [z]) ∧ z.id = X ∧ z.ct.right = true ∧ Kt [36] w0.heap.size wr wq
  val : l.getD 12 false = true → f 12 = f 11
section
variable {w0 wr wq wq' : World} {X : List UInt8} {ys : List Vt} {l : Array Bool} {f : Nat → Value} {u : Value}
theorem SV.start (h0 : ∀ i, l.getD i false = false) (hx : Ex wr wq) (hw : Ex w0 wr) : SV w0 wr X ys l f wq :=
  ⟨Ex.trans hw hx, fun _ => hx, (fun a => by rw [h0] at a; cases a), (fun a => by rw [h0] at a; cases a), (fun a => by rw [h0] at a; cases a), (fun a => by rw [h0] at a; cases a)⟩
theorem SV.plain (h : SV w0 wr X ys l f wq) (i : Nat) (hi : i < 9) : SV w0 wr X ys (l.setIfInBounds i true) (upd f i u) wq := by
  refine ⟨h.exw, fun a => ?_, fun a b => ?_, fun a b => ?_, fun a => ?_, fun a => ?_⟩
  · rw [gset (by omega) false] at a; exact h.ex a
  · rw [gset (by omega) false] at a b; rw [upd_ne _ _ (by omega)]; exact h.c a b
  · rw [gset (by omega) false] at a b; rw [upd_ne _ _ (by omega)]; exact h.b a b
  · rw [gset (by omega) false] at a; rw [upd_ne _ _ (by omega)]; exact h.fin a
  rw [gset (by omega) false] at a; rw [upd_ne _ _ (by omega), upd_ne _ _ (by omega)]; exact h.val a
theorem SV.call (h : SV w0 wr X ys l f wq) (h11 : l.getD 11 false = false) (h12 : l.getD 12 false = false) (k : Ex wq wq') (hz : ∃ z : Vt, u = z.V ∧ TVN wq' z ∧ z.id = X ∧ z.ct.right = true) : SV w0 wr X ys (l.setIfInBounds 9 true) (upd f 9 u) wq' := by
  refine ⟨Ex.trans h.exw k, fun _ => Ex.trans (h.ex h11) k, fun _ _ => by rw [upd_same]; exact hz, fun a b => ?_, fun a => ?_, fun a => ?_⟩
  · rw [gset (by omega) false] at a b; rw [upd_ne _ _ (by omega)]
    obtain ⟨z, g, e1, e2, e3, e4⟩ := h.b a b
    exact ⟨z, g, e1, e2.ext k, e3.ext k, e4⟩
  · rw [gset (by omega) false, h11] at a; cases a
  rw [gset (by omega) false, h12] at a; cases a
theorem SV.bs (h : SV w0 wr X ys l f wq) (h11 : l.getD 11 false = false) (h12 : l.getD 12 false = false) (k : Ex wq wq') (hz : ∃ (z : Vt) (g : Nat), u = .slice (some ⟨g, 0, none⟩) 1 1 ∧ Bk wq' g 36 z.C.toArray ∧ TVN wq' z ∧ z.id = X ∧ z.ct.right = true) : SV w0 wr X ys (l.setIfInBounds 10 true) (upd f 10 u) wq' := by
  refine ⟨Ex.trans h.exw k, fun _ => Ex.trans (h.ex h11) k, fun a b => ?_, fun _ _ => by rw [upd_same]; exact hz, fun a => ?_, fun a => ?_⟩
  · rw [gset (by omega) false] at a b; rw [upd_ne _ _ (by omega)]
    obtain ⟨z, e1, e2, e3⟩ := h.c a b
    exact ⟨z, e1, e2.ext k, e3⟩
  · rw [gset (by omega) false, h11] at a; cases a
  rw [gset (by omega) false, h12] at a; cases a
theorem SV.app (hl : 11 < l.size) (h12 : l.getD 12 false = false) (k : Ex w0 wq') (hz : ∃ z : Vt, VRow wq' w0.heap.size u (ys ++ [z]) ∧ z.id = X ∧ z.ct.right = true ∧ Kt [36] w0.heap.size wr wq') : SV w0 wr X ys (l.setIfInBounds 11 true) (upd f 11 u) wq' := by
  refine ⟨k, fun a => ?_, fun _ a => ?_, fun _ a => ?_, fun _ => by rw [upd_same]; exact hz, fun a => ?_⟩
  · rw [set_new hl] at a; cases a
  · rw [set_new hl] at a; cases a
  · rw [set_new hl] at a; cases a
  rw [gset (by omega) false, h12] at a; cases a
theorem SV.asg (h : SV w0 wr X ys l f wq) : SV w0 wr X ys (l.setIfInBounds 12 true) (upd f 12 (f 11)) wq := by
  refine ⟨h.exw, fun a => ?_, fun a b => ?_, fun a b => ?_, fun a => ?_, fun a => ?_⟩
  · rw [gset (by omega) false] at a; exact h.ex a
  · rw [gset (by omega) false] at a b; rw [upd_ne _ _ (by omega)]; exact h.c a b
  · rw [gset (by omega) false] at a b; rw [upd_ne _ _ (by omega)]; exact h.b a b
  · rw [gset (by omega) false] at a; rw [upd_ne _ _ (by omega)]; exact h.fin a
  rw [upd_same, upd_ne _ _ (by omega)]
end
def KvsPost (s : Int) (w : World) (e : Ending) (w' : World) : Prop := ∃ (v : Value) (ys : List Vt), e = .returned v ∧ VRow w' w.heap.size v ys ∧ ys.length ≤ 4 ∧ ys.map (fun y => y.id) = (idsS s 256).take ys.length ∧ (∀ y ∈ ys, y.ct.right = true) ∧ Ex w w'
theorem keepvs_any (ad : Option Addr) (cap : Nat) (l : List Kv) (s : Int) (hs : i64 s) (w : World) (hL : l.length ≤ 9223372036854775807) (hin : Kvp.In ad cap l w) : Calls Try.prog 27 #[.slice ad l.length cap, .int .i64 s] w (KvsPost s w) := by
  have HIN := Hi hin
  obtain ⟨n, hn⟩ : ∃ n, n = l.length := ⟨_, rfl⟩
  rw [← hn] at hL ⊢
  have HN := Hi hn
  have HS := Hi hs
  clear hn hin hs
  go_enter Try.func27, Try.ntmps27
  go_wp2_with fail
  refine (ids_any s HS.out w).mono ?_
  rintro e w1 ⟨v1, rfl, hrow, hx⟩
  obtain ⟨adI, capI, rfl, _, _, hcm, _⟩ := own_rd hrow
  have IR0 := Hi hrow
  have BX0 := Hi hx
  have HL4 : Hid (∀ x ∈ idsS s 256, (Lib.byteCells x).length = 4) := Hi idsS_four
  have hm256 : (idsS s 256).length ≤ 256 := idsS_len s 256
  obtain ⟨L, hL1⟩ : ∃ L, L = idsS s 256 := ⟨_, rfl⟩
  have HLD := Hi hL1
  rw [← hL1] at IR0 HL4 hm256 ⊢
  obtain ⟨m, hm⟩ : ∃ m, m = L.length := ⟨_, rfl⟩
  have HM := Hi hm
  rw [← hm] at IR0 hm256 ⊢
  clear hm hL1 hrow hx hcm
  go_wp2_with fail
  go_loopw [6, 7] (fun v i wr => ∃ (k : Nat) (rv : Value) (ys : List Vt), k ≤ n ∧ k ≤ 4 ∧ k ≤ m ∧ i = .int .i64 k ∧ rv = v ∧ Hid (IRow wr w.heap.size (.slice adI m capI) L) ∧ Hid (VRow wr w.heap.size rv ys) ∧ Hid (ys.length = k ∧ ys.map (fun y => y.id) = L.take k ∧ ∀ y ∈ ys, y.ct.right = true) ∧ Hid (Ex w wr)) (fun _ i _ => 4 - (intOf i).toNat)
  case atStart => exact ⟨0, _, [], by omega, by omega, by omega, rfl, rfl, IR0, Hi (VRow.nil _ _), Hi ⟨rfl, rfl, fun y hy => by cases hy⟩, BX0⟩
  clear IR0 BX0
  obtain ⟨k, rv, ys, hk, hk4, hkm, rfl, rfl, IR, VR, HY, BX⟩ := hrel
  have q0 : (0 : Int) ≤ (k : Int) := by omega
  by_cases h1 : k < n
  rotate_left
  · have q1 : ¬ (k : Int) < (n : Int) := by omega
    go_wp2_with fail
    go_ret
    exact ⟨_, ys, rfl, VR.out, by rw [HY.out.1]; exact hk4, by rw [HY.out.1, ← HLD.out]; exact HY.out.2.1, HY.out.2.2, BX.out⟩
  have q1 : (k : Int) < (n : Int) := by omega
  by_cases h2 : k < 4
  rotate_left
  · have q2 : ¬ (k : Int) < 4 := by omega
    go_wp2_with fail
    go_ret
    exact ⟨_, ys, rfl, VR.out, by rw [HY.out.1]; exact hk4, by rw [HY.out.1, ← HLD.out]; exact HY.out.2.1, HY.out.2.2, BX.out⟩
  have q2 : (k : Int) < 4 := by omega
  by_cases h3 : k < m
  rotate_left
  · have q3 : ¬ (k : Int) < (m : Int) := by omega
    go_wp2_with fail
    go_ret
    exact ⟨_, ys, rfl, VR.out, by rw [HY.out.1]; exact hk4, by rw [HY.out.1, ← HLD.out]; exact HY.out.2.1, HY.out.2.2, BX.out⟩
  have q3 : (k : Int) < (m : Int) := by omega
  obtain ⟨ab, ofs, rfl, hab, hcc⟩ := HIN.out.read (by rw [← HN.out]; omega)
  obtain ⟨x, hx⟩ : ∃ x, l[k]? = some x := ⟨_, List.getElem?_eq_getElem (by rw [← HN.out]; exact h1)⟩
  have XI := Hi (HIN.out.ins k x hx)
  have XRG : Hid (∀ wq, Ex w wq → wq.rangeAt ab (ofs + k * 8) x.C) := Hi (fun wq e j u hu => (Below.cell (p := ⟨ab, ofs + k * 8 + j, none⟩) e hab).trans (hcc k x hx j u hu))
  clear hcc hx hab
  obtain ⟨ib, io, rfl, hib, hii⟩ := IR.out.read HL4.out (by rw [← HM.out]; omega)
  obtain ⟨X, hX⟩ : ∃ X, L[k]? = some X := ⟨_, List.getElem?_eq_getElem (by rw [← HM.out]; exact h3)⟩
  have X4 := Hi (HL4.out X (List.mem_of_getElem? hX))
  have IRG : Hid (∀ wq, Ex wr wq → wq.rangeAt ib (io + k * 4) (Lib.byteCells X)) := Hi (fun wq e j u hu => (Below.cell (p := ⟨ib, io + k * 4 + j, none⟩) e hib).trans (hii k X hX j u hu))
  have HX := Hi hX
  clear hii hX hib
  go_wp2_with fail
  have hS0 : ∀ (listed : Array Bool) (f : Nat → Value), (∀ i, listed.getD i false = false) → SV w wr X ys listed f wr.drew := fun _ _ h0 => SV.start h0 (Below.refl wr.heap.size wr).drew BX.out
  obtain ⟨T, hT⟩ : ∃ T : List (Value → Prop), T = [(fun zz => zz = rv), (fun zz => zz = .slice (some ⟨ab, ofs, none⟩) n cap), (fun zz => zz = .int .i64 (k : Int)), (fun zz => zz = .pointer (some ⟨ab, ofs + k * 8, none⟩)), (fun zz => zz = x.V), (fun zz => zz = .slice (some ⟨ib, io, none⟩) m capI), (fun zz => zz = .int .i64 (k : Int)), (fun zz => zz = .pointer (some ⟨ib, io + k * 4, none⟩)), (fun zz => zz = digV X), (fun _ => True), (fun _ => True), (fun _ => True), (fun _ => True)] := ⟨_, rfl⟩
  refine wp_region_gen (JS T ([(9, 8), (10, 9), (11, 10), (12, 11)] : List (Nat × Nat)) (fun lz fz wq => SV w wr X ys lz fz wq)) (by kernel_rfl) (by kernel_rfl) (by kernel_rfl) (fitB_spec (by kernel_rfl)) (fun listed f h => JS.start listed f h (hS0 listed f h)) ?_ ?_
  · intro i o ho
    have hi : i < 13 := (Array.getElem?_eq_some_iff.1 ho).1
    have hi' : i = 0 ∨ i = 1 ∨ i = 2 ∨ i = 3 ∨ i = 4 ∨ i = 5 ∨ i = 6 ∨ i = 7 ∨ i = 8 ∨ i = 9 ∨ i = 10 ∨ i = 11 ∨ i = 12 := by omega
    clear hi
    rcases hi' with rfl | rfl | rfl | rfl | rfl | rfl | rfl | rfl | rfl | rfl | rfl | rfl | rfl
    all_goals (simp only [List.getElem?_toArray, List.getElem?_cons_zero, List.getElem?_cons_succ, Option.some.injEq] at ho; subst ho; intro listed f a w3 hJ hsz hls hun hdep hout hlat; first | (rw [if_pos (by rfl)]; intro K hK) | skip)
    · have q6 := hlat 6 12 _ rfl rfl ⟨⟨0, .phase⟩, by simp, rfl, rfl⟩
      have hord : ∀ x ∈ ([(9, 8), (10, 9), (11, 10), (12, 11)] : List (Nat × Nat)), x.1 = 0 → listed.getD x.2 false = true := (by intro x hx he; simp only [List.mem_cons, List.not_mem_nil, or_false] at hx; rcases hx with rfl | rfl | rfl | rfl; all_goals first | (exact absurd he (by decide)) | assumption)
      exact wp_mw _ rfl q6 (hK _ _ (hJ.nx hls hT rfl rfl (SV.plain hJ.st 0 (by decide)) hord))
    · have q0 := hout 0 ob
      have hord : ∀ x ∈ ([(9, 8), (10, 9), (11, 10), (12, 11)] : List (Nat × Nat)), x.1 = 1 → listed.getD x.2 false = true := (by intro x hx he; simp only [List.mem_cons, List.not_mem_nil, or_false] at hx; rcases hx with rfl | rfl | rfl | rfl; all_goals first | (exact absurd he (by decide)) | assumption)
      exact wp_mw _ rfl q0 (hK _ _ (hJ.nx hls hT rfl rfl (SV.plain hJ.st 1 (by decide)) hord))
    · have q7 := hout 7 ob
      have hord : ∀ x ∈ ([(9, 8), (10, 9), (11, 10), (12, 11)] : List (Nat × Nat)), x.1 = 2 → listed.getD x.2 false = true := (by intro x hx he; simp only [List.mem_cons, List.not_mem_nil, or_false] at hx; rcases hx with rfl | rfl | rfl | rfl; all_goals first | (exact absurd he (by decide)) | assumption)
      exact wp_mw _ rfl q7 (hK _ _ (hJ.nx hls hT rfl rfl (SV.plain hJ.st 2 (by decide)) hord))
    · have q27 := hJ.is hT (hdep ⟨1, .data⟩ (by simp) rfl) rfl _ rfl _ rfl
      have q28 := hJ.is hT (hdep ⟨2, .data⟩ (by simp) rfl) rfl _ rfl _ rfl
      have hord : ∀ x ∈ ([(9, 8), (10, 9), (11, 10), (12, 11)] : List (Nat × Nat)), x.1 = 3 → listed.getD x.2 false = true := (by intro x hx he; simp only [List.mem_cons, List.not_mem_nil, or_false] at hx; rcases hx with rfl | rfl | rfl | rfl; all_goals first | (exact absurd he (by decide)) | assumption)
      rw [gd9] at q27
      rw [gd9] at q28
      clear hsz hdep hout hlat
      go_simp
      exact hK _ _ (hJ.nx hls hT rfl (by first | rfl | exact congrArg (Value.int .i64) (by omega) | exact congrArg (Value.int .i64) (by rw [IntKind.wrap_i64]; omega) | exact congrArg Value.bool (decide_eq_false (by omega)) | exact congrArg Value.bool (decide_eq_true (by omega)) | exact congrArg (Value.int .u64) (by omega)) (SV.plain hJ.st 3 (by decide)) hord)
    · have q29 := hJ.is hT (hdep ⟨3, .data⟩ (by simp) rfl) rfl _ rfl _ rfl
      have hord : ∀ x ∈ ([(9, 8), (10, 9), (11, 10), (12, 11)] : List (Nat × Nat)), x.1 = 4 → listed.getD x.2 false = true := (by intro x hx he; simp only [List.mem_cons, List.not_mem_nil, or_false] at hx; rcases hx with rfl | rfl | rfl | rfl; all_goals first | (exact absurd he (by decide)) | assumption)
      exact ld_kv _ ab (ofs + k * 8) x rfl q29 (XRG.out _ hJ.st.exw) (hK _ _ (hJ.nx hls hT rfl rfl (SV.plain hJ.st 4 (by decide)) hord))
    · have q5 := hout 5 ob
      have hord : ∀ x ∈ ([(9, 8), (10, 9), (11, 10), (12, 11)] : List (Nat × Nat)), x.1 = 5 → listed.getD x.2 false = true := (by intro x hx he; simp only [List.mem_cons, List.not_mem_nil, or_false] at hx; rcases hx with rfl | rfl | rfl | rfl; all_goals first | (exact absurd he (by decide)) | assumption)
      exact wp_mw _ rfl q5 (hK _ _ (hJ.nx hls hT rfl rfl (SV.plain hJ.st 5 (by decide)) hord))
    · have q7 := hout 7 ob
      have hord : ∀ x ∈ ([(9, 8), (10, 9), (11, 10), (12, 11)] : List (Nat × Nat)), x.1 = 6 → listed.getD x.2 false = true := (by intro x hx he; simp only [List.mem_cons, List.not_mem_nil, or_false] at hx; rcases hx with rfl | rfl | rfl | rfl; all_goals first | (exact absurd he (by decide)) | assumption)
      exact wp_mw _ rfl q7 (hK _ _ (hJ.nx hls hT rfl rfl (SV.plain hJ.st 6 (by decide)) hord))
    · have q31 := hJ.is hT (hdep ⟨5, .data⟩ (by simp) rfl) rfl _ rfl _ rfl
      have q32 := hJ.is hT (hdep ⟨6, .data⟩ (by simp) rfl) rfl _ rfl _ rfl
      have hord : ∀ x ∈ ([(9, 8), (10, 9), (11, 10), (12, 11)] : List (Nat × Nat)), x.1 = 7 → listed.getD x.2 false = true := (by intro x hx he; simp only [List.mem_cons, List.not_mem_nil, or_false] at hx; rcases hx with rfl | rfl | rfl | rfl; all_goals first | (exact absurd he (by decide)) | assumption)
      rw [gd9] at q31
      rw [gd9] at q32
      clear hsz hdep hout hlat
      go_simp
      exact hK _ _ (hJ.nx hls hT rfl (by first | rfl | exact congrArg (Value.int .i64) (by omega) | exact congrArg (Value.int .i64) (by rw [IntKind.wrap_i64]; omega) | exact congrArg Value.bool (decide_eq_false (by omega)) | exact congrArg Value.bool (decide_eq_true (by omega)) | exact congrArg (Value.int .u64) (by omega)) (SV.plain hJ.st 7 (by decide)) hord)
    · have q33 := hJ.is hT (hdep ⟨7, .data⟩ (by simp) rfl) rfl _ rfl _ rfl
      have hord : ∀ x ∈ ([(9, 8), (10, 9), (11, 10), (12, 11)] : List (Nat × Nat)), x.1 = 8 → listed.getD x.2 false = true := (by intro x hx he; simp only [List.mem_cons, List.not_mem_nil, or_false] at hx; rcases hx with rfl | rfl | rfl | rfl; all_goals first | (exact absurd he (by decide)) | assumption)
      have h11 : listed.getD 11 false = false := by
        cases hc : listed.getD 11 false with
        | false => rfl
        | true =>
          have hcx := hJ.ord (11, 10) (by simp) hc
          have hcxx := hJ.ord (10, 9) (by simp) hcx
          have hcxxx := hJ.ord (9, 8) (by simp) hcxx
          exact absurd hcxxx (by rw [hun]; decide)
      exact ld_idr _ ib (io + k * 4) X rfl q33 (IRG.out _ (hJ.st.ex h11)) X4.out (hK _ _ (hJ.nx hls hT rfl rfl (SV.plain hJ.st 8 (by decide)) hord))
    · have q30 := hJ.is hT (hdep ⟨4, .data⟩ (by simp) rfl) rfl _ rfl _ rfl
      have q34 := hJ.is hT (hdep ⟨8, .data⟩ (by simp) rfl) rfl _ rfl _ rfl
      have hl8 := (hdep ⟨8, .data⟩ (by simp) rfl).1
      have hord : ∀ x ∈ ([(9, 8), (10, 9), (11, 10), (12, 11)] : List (Nat × Nat)), x.1 = 9 → listed.getD x.2 false = true := (by intro x hx he; simp only [List.mem_cons, List.not_mem_nil, or_false] at hx; rcases hx with rfl | rfl | rfl | rfl; all_goals first | (exact absurd he (by decide)) | assumption)
      have h11 : listed.getD 11 false = false := by
        cases hc : listed.getD 11 false with
        | false => rfl
        | true =>
          have hcx := hJ.ord (11, 10) (by simp) hc
          have hcxx := hJ.ord (10, 9) (by simp) hcx
          exact absurd hcxx (by rw [hun]; decide)
      have h12 : listed.getD 12 false = false := by
        cases hc : listed.getD 12 false with
        | false => rfl
        | true =>
          have hcx := hJ.ord (12, 11) (by simp) hc
          have hcxx := hJ.ord (11, 10) (by simp) hcx
          have hcxxx := hJ.ord (10, 9) (by simp) hcxx
          exact absurd hcxxx (by rw [hun]; decide)
      rw [gd9] at q30
      rw [gd9] at q34
      have hst := hJ.st
      clear hsz hdep hout hlat
      go_simp
      refine (kv_any x X (by have := X4.out; rwa [byteCells_len] at this) w3 (XI.out.ext hst.exw)).mono ?_
      rintro e wq ⟨y, rfl, hy1, hy3, hy2, xq⟩
      exact hK _ _ (hJ.nx hls hT rfl (by trivial) (SV.call hst h11 h12 xq ⟨y, rfl, hy1, hy3, hy2⟩) hord)
    · have dd35 := hdep ⟨9, .data⟩ (by simp) rfl
      have q35 := dd35.2 _ rfl _ rfl
      have hl9 := (hdep ⟨9, .data⟩ (by simp) rfl).1
      have hord : ∀ x ∈ ([(9, 8), (10, 9), (11, 10), (12, 11)] : List (Nat × Nat)), x.1 = 10 → listed.getD x.2 false = true := (by intro x hx he; simp only [List.mem_cons, List.not_mem_nil, or_false] at hx; rcases hx with rfl | rfl | rfl | rfl; all_goals first | (exact absurd he (by decide)) | assumption)
      have h11 : listed.getD 11 false = false := by
        cases hc : listed.getD 11 false with
        | false => rfl
        | true =>
          have hcx := hJ.ord (11, 10) (by simp) hc
          exact absurd hcx (by rw [hun]; decide)
      have h12 : listed.getD 12 false = false := by
        cases hc : listed.getD 12 false with
        | false => rfl
        | true =>
          have hcx := hJ.ord (12, 11) (by simp) hc
          have hcxx := hJ.ord (11, 10) (by simp) hcx
          exact absurd hcxx (by rw [hun]; decide)
      have hst := hJ.st
      have hl9 := (hdep ⟨9, .data⟩ (by simp) rfl).1
      obtain ⟨z, hz, hz1, hz2, hz3⟩ := hst.c hl9 h11
      rw [hz] at q35
      exact wp_bsv _ z hz1.ok rfl q35 (hK _ _ (hJ.nx hls hT rfl (by trivial) (SV.bs hst h11 h12 (Ex.alloc _ _) ⟨z, w3.heap.size, rfl, Bk.new rfl _ _, hz1.ext (Ex.alloc _ _), hz2, hz3⟩) hord))
    · have q26 := hJ.is hT (hdep ⟨0, .data⟩ (by simp) rfl) rfl _ rfl _ rfl
      have dd36 := hdep ⟨10, .data⟩ (by simp) rfl
      have q36 := dd36.2 _ rfl _ rfl
      have hl10 := (hdep ⟨10, .data⟩ (by simp) rfl).1
      have hord : ∀ x ∈ ([(9, 8), (10, 9), (11, 10), (12, 11)] : List (Nat × Nat)), x.1 = 11 → listed.getD x.2 false = true := (by intro x hx he; simp only [List.mem_cons, List.not_mem_nil, or_false] at hx; rcases hx with rfl | rfl | rfl | rfl; all_goals first | (exact absurd he (by decide)) | assumption)
      have h12 : listed.getD 12 false = false := by
        cases hc : listed.getD 12 false with
        | false => rfl
        | true =>
          have hcx := hJ.ord (12, 11) (by simp) hc
          exact absurd hcx (by rw [hun]; decide)
      have hst := hJ.st
      have hl10 := (hdep ⟨10, .data⟩ (by simp) rfl).1
      obtain ⟨z, g, hz, hb, hz1, hz2, hz3⟩ := hst.b hl10 hun
      rw [hz] at q36
      obtain ⟨adx, ex, _, rx⟩ := Many.rd (n := 1) (sz := 42) ⟨g, rfl, hb⟩ (Vt.len hz1.ok)
      cases ex
      have hv3 := VR.out.ext (hst.ex hun)
      exact wp_rd _ _ 37 36 zeroVt.V 42 96 rfl Try.underlying37 Try.infoVt rfl (by decide) w.heap.size ys.length rv _ q26 hv3.row (Below.size hst.exw) _ 1 1 _ q36 rx (Nat.le_refl _) (fun h => by cases h) (Vt.C_one z) (by have := HY.out.1; omega) (by have := HY.out.1; omega) (fun v5 w5 r1 r2 => hK _ _ (hJ.nx hls hT rfl (by trivial) (SV.app (by rw [hls]; decide) h12 (Below.trans hst.exw r2.below) ⟨z, hv3.app r2 r1 hz1, hz2, hz3, (Ex.kt (hst.ex hun) (Below.size BX.out)).trans r2⟩) hord))
    have dd37 := hdep ⟨11, .data⟩ (by simp) rfl
    have q37 := dd37.2 _ rfl _ rfl
    have hl11 := (hdep ⟨11, .data⟩ (by simp) rfl).1
    have hord : ∀ x ∈ ([(9, 8), (10, 9), (11, 10), (12, 11)] : List (Nat × Nat)), x.1 = 12 → listed.getD x.2 false = true := (by intro x hx he; simp only [List.mem_cons, List.not_mem_nil, or_false] at hx; rcases hx with rfl | rfl | rfl | rfl; all_goals first | (exact absurd he (by decide)) | assumption)
    have e11 := q37
    rw [gd9] at q37
    clear hsz hdep hout hlat
    go_simp
    exact hK _ _ (hJ.nx hls hT rfl (by trivial) (SV.asg hJ.st) hord)
  intro listed f w3 hall hJ
  have hst := hJ.st
  simp only [putAll, Act.put, List.setIfInBounds_toArray, List.set_cons_zero, List.set_cons_succ, Nat.zero_add, Nat.reduceAdd]
  obtain ⟨z, hz, hz2, hz3, hkt⟩ := hst.fin (hall 11 (by simp))
  rw [hst.val (hall 12 (by simp))]
  replace BX : Hid (Ex w w3) := Hi hst.exw
  replace IR : Hid (IRow w3 w.heap.size (.slice (some ⟨ib, io, none⟩) m capI) L) := Hi (hkt.row IR.out (by decide))
  have HV := Hi hz
  replace HY : Hid ((ys ++ [z]).length = k + 1 ∧ (ys ++ [z]).map (fun y => y.id) = L.take (k + 1) ∧ ∀ y ∈ ys ++ [z], y.ct.right = true) := Hi ⟨by rw [List.length_append, HY.out.1]; rfl, by rw [List.map_append, HY.out.2.1, List.take_add_one, HX.out]; simp [hz2], fun y hy => by
    rcases List.mem_append.1 hy with hy | hy
    · exact HY.out.2.2 y hy
    · rw [List.mem_singleton.1 hy]; exact hz3⟩
  clear hst hS0 hz hz2 hz3 hkt XI XRG IRG VR HX X4
  clear hJ hall hT
  generalize f 0 = y0
  generalize f 1 = y1
  generalize f 2 = y2
  generalize f 3 = y3
  generalize f 4 = y4
  generalize f 5 = y5
  generalize f 6 = y6
  generalize f 7 = y7
  generalize f 8 = y8
  generalize f 9 = y9
  generalize f 10 = y10
  generalize f 12 = y12
  generalize f 11 = v11 at HV ⊢
  go_wp2_with fail
  (first | (refine ⟨?_, ?measure⟩; (repeat apply Exists.intro); refine ⟨?rel, rfl⟩) | refine ⟨?rel, ?measure⟩)
  case rel => exact ⟨k + 1, _, _, by omega, by omega, by omega, by go_num, rfl, IR, HV, HY, BX⟩
  case measure => simp [intOf]; omega
end Go.Proofs.Ytmjfnpmnhehnkaa
namespace Go.Proofs.Ytmjfnpmnhehnkaa
open Go.RowKit
theorem ints_at {w : World} {ad : Option Addr} {L : List Nat} (h : Rd w ad L.length 1 (L.flatMap intC)) : 0 < L.length → ∃ a o, ad = some ⟨a, o, none⟩ ∧ a < w.heap.size ∧ ∀ (i x : Nat), L[i]? = some x → w.cell? ⟨a, o + i, none⟩ = some (.int .i64 (x : Int)) := fun h0 => by
  obtain ⟨a, o, e, hl, hc⟩ := gflat_back intC 1 (fun x _ => rfl) h h0
  exact ⟨a, o, e, hl, fun i x hx => by have := hc i x hx 0 _ rfl; rw [Nat.mul_one, Nat.add_zero] at this; exact this⟩
theorem sames_any (ad bd : Option Addr) (cap cap2 : Nat) (L L2 : List Nat) (w : World) (ha : Rd w ad L.length 1 (L.flatMap intC)) (hb : Rd w bd L2.length 1 (L2.flatMap intC)) (hL : L.length ≤ 1000) (hL2 : L2.length ≤ 1000) : Calls Try.prog 28 #[.slice ad L.length cap, .slice bd L2.length cap2] w fun e w' => e = .returned (.bool (decide (L = L2))) ∧ Ex w w' := by
  obtain ⟨n, hn⟩ : ∃ n, n = L.length := ⟨_, rfl⟩
  obtain ⟨m, hm⟩ : ∃ n, n = L2.length := ⟨_, rfl⟩
  have HA := Hi (ints_at ha)
  have HB := Hi (ints_at hb)
  rw [← hn] at HA hL ⊢
  rw [← hm] at HB hL2 ⊢
  have HN := Hi hn
  have HM := Hi hm
  clear ha hb hn hm
  by_cases hne : n = m
  rotate_left
  · have RR := Hi (show decide (L = L2) = false from decide_eq_false (fun e => hne (by rw [HN.out, HM.out, e])))
    generalize decide (L = L2) = R at *
    have e1 : ((n : Int) == (m : Int)) = false := by simp; omega
    have e2 : ((n : Int) != (m : Int)) = true := by simp; omega
    go_enter Try.func28, Try.ntmps28
    go_wp2_with fail
    go_ret
    exact ⟨congrArg (fun b => Ending.returned (.bool b)) RR.out.symm, Ex.refl _⟩
  subst hne
  have D0 := Hi (show (∀ i, i < n → L[i]? = L2[i]?) → decide (L = L2) = true from fun h => decide_eq_true (List.ext_getElem? (fun i => by
    rcases Nat.lt_or_ge i n with hi | hi
    · exact h i hi
    · rw [List.getElem?_eq_none (by rw [← HN.out]; exact hi), List.getElem?_eq_none (by rw [← HM.out]; exact hi)])))
  have D1 := Hi (show ∀ i : Nat, L[i]? ≠ L2[i]? → decide (L = L2) = false from fun i h => decide_eq_false (fun e => h (by rw [e])))
  generalize decide (L = L2) = R at *
  go_enter Try.func28, Try.ntmps28
  go_wp2_with fail
  go_loopw [5] (fun i wr => ∃ k : Nat, k ≤ n ∧ i = .int .i64 k ∧ Hid (∀ j, j < k → L[j]? = L2[j]?) ∧ Hid (Ex w wr)) (fun i _ => n - (intOf i).toNat)
  case atStart => exact ⟨0, by omega, rfl, Hi fun j hj => by omega, Hi (Ex.refl _)⟩
  obtain ⟨k, hk, rfl, OK, BX⟩ := hrel
  by_cases hlt : k < n
  rotate_left
  · obtain rfl : k = n := by omega
    have q1 : ¬ (k : Int) < (k : Int) := by omega
    have RR := Hi (D0.out OK.out)
    go_wp2_with fail
    go_ret
    exact ⟨congrArg (fun b => Ending.returned (.bool b)) RR.out.symm, BX.out⟩
  have q0 : (0 : Int) ≤ (k : Int) := by omega
  have q1 : (k : Int) < (n : Int) := by omega
  obtain ⟨ab, ofs, rfl, hab, hcc⟩ := HA.out (by omega)
  obtain ⟨ib, io, rfl, hib, hii⟩ := HB.out (by omega)
  obtain ⟨x, hx⟩ : ∃ x, L[k]? = some x := ⟨_, List.getElem?_eq_getElem (by rw [← HN.out]; exact hlt)⟩
  obtain ⟨y, hy⟩ : ∃ x, L2[k]? = some x := ⟨_, List.getElem?_eq_getElem (by rw [← HM.out]; exact hlt)⟩
  have CX : Hid (∀ wq, Ex wr wq → wq.cell? ⟨ab, ofs + k, none⟩ = some (.int .i64 (x : Int))) := Hi (fun wq e => (Below.cell (p := ⟨ab, ofs + k, none⟩) (Ex.trans BX.out e) hab).trans (hcc k x hx))
  have CY : Hid (∀ wq, Ex wr wq → wq.cell? ⟨ib, io + k, none⟩ = some (.int .i64 (y : Int))) := Hi (fun wq e => (Below.cell (p := ⟨ib, io + k, none⟩) (Ex.trans BX.out e) hib).trans (hii k y hy))
  have HX := Hi hx
  have HY := Hi hy
  clear hcc hii hx hy hab hib
  go_wp2_with fail
  by_cases e : x = y
  · subst e
    have E1 : Hid (((x : Int) != (x : Int)) = false) := Hi (by simp)
    have OK2 : Hid (∀ j, j < k + 1 → L[j]? = L2[j]?) := Hi fun j hj => by
      by_cases e : j = k
      · subst e; rw [HX.out, HY.out]
      · exact OK.out j (by omega)
    have hS0 : ∀ (listed : Array Bool) (f : Nat → Value), (∀ i, listed.getD i false = false) → Ex wr wr.drew := fun _ _ _ => (Below.refl wr.heap.size wr).drew
    obtain ⟨T, hT⟩ : ∃ T : List (Value → Prop), T = [(fun zz => zz = .slice (some ⟨ab, ofs, none⟩) n cap), (fun zz => zz = .int .i64 (k : Int)), (fun zz => zz = .pointer (some ⟨ab, ofs + k, none⟩)), (fun zz => zz = .int .i64 (x : Int)), (fun zz => zz = .slice (some ⟨ib, io, none⟩) n cap2), (fun zz => zz = .int .i64 (k : Int)), (fun zz => zz = .pointer (some ⟨ib, io + k, none⟩)), (fun zz => zz = .int .i64 (x : Int)), (fun zz => zz = .bool false)] := ⟨_, rfl⟩
    refine wp_region_gen (JS T ([] : List (Nat × Nat)) (fun _ _ wq => Ex wr wq)) (by kernel_rfl) (by kernel_rfl) (by kernel_rfl) (fitB_spec (by kernel_rfl)) (fun listed f h => JS.start listed f h (hS0 listed f h)) ?_ ?_
    · intro i o ho
      have hi : i < 9 := (Array.getElem?_eq_some_iff.1 ho).1
      have hi' : i = 0 ∨ i = 1 ∨ i = 2 ∨ i = 3 ∨ i = 4 ∨ i = 5 ∨ i = 6 ∨ i = 7 ∨ i = 8 := by omega
      clear hi
      rcases hi' with rfl | rfl | rfl | rfl | rfl | rfl | rfl | rfl | rfl
      all_goals (simp only [List.getElem?_toArray, List.getElem?_cons_zero, List.getElem?_cons_succ, Option.some.injEq] at ho; subst ho; intro listed f a w3 hJ hsz hls hun hdep hout hlat; first | (rw [if_pos (by rfl)]; intro K hK) | skip)
      · have q0 := hout 0 ob
        have hord := nil_ord 0 listed
        exact wp_mw _ rfl q0 (hK _ _ (hJ.nx hls hT rfl rfl hJ.st hord))
      · have q5 := hout 5 ob
        have hord := nil_ord 1 listed
        exact wp_mw _ rfl q5 (hK _ _ (hJ.nx hls hT rfl rfl hJ.st hord))
      · have q17 := hJ.is hT (hdep ⟨0, .data⟩ (by simp) rfl) rfl _ rfl _ rfl
        have q18 := hJ.is hT (hdep ⟨1, .data⟩ (by simp) rfl) rfl _ rfl _ rfl
        have hord := nil_ord 2 listed
        rw [gd9] at q17
        rw [gd9] at q18
        clear hsz hdep hout hlat
        go_simp
        exact hK _ _ (hJ.nx hls hT rfl (by first | rfl | exact congrArg (Value.int .i64) (by omega) | exact congrArg (Value.int .i64) (by rw [IntKind.wrap_i64]; omega) | exact congrArg Value.bool (decide_eq_false (by omega)) | exact congrArg Value.bool (decide_eq_true (by omega)) | exact congrArg (Value.int .u64) (by omega)) hJ.st hord)
      · have q19 := hJ.is hT (hdep ⟨2, .data⟩ (by simp) rfl) rfl _ rfl _ rfl
        have hord := nil_ord 3 listed
        have c0 := CX.out _ hJ.st
        rw [gd9] at q19
        clear hsz hdep hout hlat
        go_simp
        exact hK _ _ (hJ.nx hls hT rfl rfl hJ.st hord)
      · have q1 := hout 1 ob
        have hord := nil_ord 4 listed
        exact wp_mw _ rfl q1 (hK _ _ (hJ.nx hls hT rfl rfl hJ.st hord))
      · have q5 := hout 5 ob
        have hord := nil_ord 5 listed
        exact wp_mw _ rfl q5 (hK _ _ (hJ.nx hls hT rfl rfl hJ.st hord))
      · have q21 := hJ.is hT (hdep ⟨4, .data⟩ (by simp) rfl) rfl _ rfl _ rfl
        have q22 := hJ.is hT (hdep ⟨5, .data⟩ (by simp) rfl) rfl _ rfl _ rfl
        have hord := nil_ord 6 listed
        rw [gd9] at q21
        rw [gd9] at q22
        clear hsz hdep hout hlat
        go_simp
        exact hK _ _ (hJ.nx hls hT rfl (by first | rfl | exact congrArg (Value.int .i64) (by omega) | exact congrArg (Value.int .i64) (by rw [IntKind.wrap_i64]; omega) | exact congrArg Value.bool (decide_eq_false (by omega)) | exact congrArg Value.bool (decide_eq_true (by omega)) | exact congrArg (Value.int .u64) (by omega)) hJ.st hord)
      · have q23 := hJ.is hT (hdep ⟨6, .data⟩ (by simp) rfl) rfl _ rfl _ rfl
        have hord := nil_ord 7 listed
        have c0 := CY.out _ hJ.st
        rw [gd9] at q23
        clear hsz hdep hout hlat
        go_simp
        exact hK _ _ (hJ.nx hls hT rfl rfl hJ.st hord)
      have q20 := hJ.is hT (hdep ⟨3, .data⟩ (by simp) rfl) rfl _ rfl _ rfl
      have q24 := hJ.is hT (hdep ⟨7, .data⟩ (by simp) rfl) rfl _ rfl _ rfl
      have hord := nil_ord 8 listed
      rw [gd9] at q20
      rw [gd9] at q24
      clear hsz hdep hout hlat
      go_simp
      exact hK _ _ (hJ.nx hls hT rfl (by first | rfl | exact congrArg Value.bool E1.out) hJ.st hord)
    intro listed f w3 hall hJ
    have f8 := hJ.fa hT (hall 8 (by simp)) rfl
    have hst := hJ.st
    simp only [putAll, Act.put, List.setIfInBounds_toArray, List.set_cons_zero, List.set_cons_succ, Nat.zero_add, Nat.reduceAdd]
    have x3 : Ex wr w3 := hst
    replace BX := Hi (Ex.trans BX.out x3)
    clear x3 hst hS0 CX CY
    rw [f8]
    clear f8
    clear hJ hall hT
    generalize f 0 = y0
    generalize f 1 = y1
    generalize f 2 = y2
    generalize f 3 = y3
    generalize f 4 = y4
    generalize f 5 = y5
    generalize f 6 = y6
    generalize f 7 = y7
    go_wp2_with fail
    (first | (refine ⟨?_, ?measure⟩; (repeat apply Exists.intro); refine ⟨?rel, rfl⟩) | refine ⟨?rel, ?measure⟩)
    case rel => exact ⟨k + 1, by omega, by go_num, OK2, BX⟩
    case measure => simp [intOf]; omega
  have E1 : Hid (((x : Int) != (y : Int)) = true) := Hi (by simp; omega)
  have RR := Hi (D1.out k (by rw [HX.out, HY.out]; intro h; exact e (Option.some.inj h)))
  have hS0 : ∀ (listed : Array Bool) (f : Nat → Value), (∀ i, listed.getD i false = false) → Ex wr wr.drew := fun _ _ _ => (Below.refl wr.heap.size wr).drew
  obtain ⟨T, hT⟩ : ∃ T : List (Value → Prop), T = [(fun zz => zz = .slice (some ⟨ab, ofs, none⟩) n cap), (fun zz => zz = .int .i64 (k : Int)), (fun zz => zz = .pointer (some ⟨ab, ofs + k, none⟩)), (fun zz => zz = .int .i64 (x : Int)), (fun zz => zz = .slice (some ⟨ib, io, none⟩) n cap2), (fun zz => zz = .int .i64 (k : Int)), (fun zz => zz = .pointer (some ⟨ib, io + k, none⟩)), (fun zz => zz = .int .i64 (y : Int)), (fun zz => zz = .bool true)] := ⟨_, rfl⟩
  refine wp_region_gen (JS T ([] : List (Nat × Nat)) (fun _ _ wq => Ex wr wq)) (by kernel_rfl) (by kernel_rfl) (by kernel_rfl) (fitB_spec (by kernel_rfl)) (fun listed f h => JS.start listed f h (hS0 listed f h)) ?_ ?_
  · intro i o ho
    have hi : i < 9 := (Array.getElem?_eq_some_iff.1 ho).1
    have hi' : i = 0 ∨ i = 1 ∨ i = 2 ∨ i = 3 ∨ i = 4 ∨ i = 5 ∨ i = 6 ∨ i = 7 ∨ i = 8 := by omega
    clear hi
    rcases hi' with rfl | rfl | rfl | rfl | rfl | rfl | rfl | rfl | rfl
    all_goals (simp only [List.getElem?_toArray, List.getElem?_cons_zero, List.getElem?_cons_succ, Option.some.injEq] at ho; subst ho; intro listed f a w3 hJ hsz hls hun hdep hout hlat; first | (rw [if_pos (by rfl)]; intro K hK) | skip)
    · have q0 := hout 0 ob
      have hord := nil_ord 0 listed
      exact wp_mw _ rfl q0 (hK _ _ (hJ.nx hls hT rfl rfl hJ.st hord))
    · have q5 := hout 5 ob
      have hord := nil_ord 1 listed
      exact wp_mw _ rfl q5 (hK _ _ (hJ.nx hls hT rfl rfl hJ.st hord))
    · have q17 := hJ.is hT (hdep ⟨0, .data⟩ (by simp) rfl) rfl _ rfl _ rfl
      have q18 := hJ.is hT (hdep ⟨1, .data⟩ (by simp) rfl) rfl _ rfl _ rfl
      have hord := nil_ord 2 listed
      rw [gd9] at q17
      rw [gd9] at q18
      clear hsz hdep hout hlat
      go_simp
      exact hK _ _ (hJ.nx hls hT rfl (by first | rfl | exact congrArg (Value.int .i64) (by omega) | exact congrArg (Value.int .i64) (by rw [IntKind.wrap_i64]; omega) | exact congrArg Value.bool (decide_eq_false (by omega)) | exact congrArg Value.bool (decide_eq_true (by omega)) | exact congrArg (Value.int .u64) (by omega)) hJ.st hord)
    · have q19 := hJ.is hT (hdep ⟨2, .data⟩ (by simp) rfl) rfl _ rfl _ rfl
      have hord := nil_ord 3 listed
      have c0 := CX.out _ hJ.st
      rw [gd9] at q19
      clear hsz hdep hout hlat
      go_simp
      exact hK _ _ (hJ.nx hls hT rfl rfl hJ.st hord)
    · have q1 := hout 1 ob
      have hord := nil_ord 4 listed
      exact wp_mw _ rfl q1 (hK _ _ (hJ.nx hls hT rfl rfl hJ.st hord))
    · have q5 := hout 5 ob
      have hord := nil_ord 5 listed
      exact wp_mw _ rfl q5 (hK _ _ (hJ.nx hls hT rfl rfl hJ.st hord))
    · have q21 := hJ.is hT (hdep ⟨4, .data⟩ (by simp) rfl) rfl _ rfl _ rfl
      have q22 := hJ.is hT (hdep ⟨5, .data⟩ (by simp) rfl) rfl _ rfl _ rfl
      have hord := nil_ord 6 listed
      rw [gd9] at q21
      rw [gd9] at q22
      clear hsz hdep hout hlat
      go_simp
      exact hK _ _ (hJ.nx hls hT rfl (by first | rfl | exact congrArg (Value.int .i64) (by omega) | exact congrArg (Value.int .i64) (by rw [IntKind.wrap_i64]; omega) | exact congrArg Value.bool (decide_eq_false (by omega)) | exact congrArg Value.bool (decide_eq_true (by omega)) | exact congrArg (Value.int .u64) (by omega)) hJ.st hord)
    · have q23 := hJ.is hT (hdep ⟨6, .data⟩ (by simp) rfl) rfl _ rfl _ rfl
      have hord := nil_ord 7 listed
      have c0 := CY.out _ hJ.st
      rw [gd9] at q23
      clear hsz hdep hout hlat
      go_simp
      exact hK _ _ (hJ.nx hls hT rfl rfl hJ.st hord)
    have q20 := hJ.is hT (hdep ⟨3, .data⟩ (by simp) rfl) rfl _ rfl _ rfl
    have q24 := hJ.is hT (hdep ⟨7, .data⟩ (by simp) rfl) rfl _ rfl _ rfl
    have hord := nil_ord 8 listed
    rw [gd9] at q20
    rw [gd9] at q24
    clear hsz hdep hout hlat
    go_simp
    exact hK _ _ (hJ.nx hls hT rfl (by first | rfl | exact congrArg Value.bool E1.out) hJ.st hord)
  intro listed f w3 hall hJ
  have f8 := hJ.fa hT (hall 8 (by simp)) rfl
  have hst := hJ.st
  simp only [putAll, Act.put, List.setIfInBounds_toArray, List.set_cons_zero, List.set_cons_succ, Nat.zero_add, Nat.reduceAdd]
  have x3 : Ex wr w3 := hst
  replace BX := Hi (Ex.trans BX.out x3)
  clear x3 hst hS0 CX CY
  rw [f8]
  clear f8
  clear hJ hall hT
  generalize f 0 = y0
  generalize f 1 = y1
  generalize f 2 = y2
  generalize f 3 = y3
  generalize f 4 = y4
  generalize f 5 = y5
  generalize f 6 = y6
  generalize f 7 = y7
  go_wp2_with fail
  go_ret
  exact ⟨congrArg (fun b => Ending.returned (.bool b)) RR.out.symm, BX.out⟩
end Go.Proofs.Ytmjfnpmnhehnkaa
namespace Go.Proofs.Ytmjfnpmnhehnkaa
open Go.RowKit
end Go.Proofs.Ytmjfnpmnhehnkaa
namespace Go.Proofs.Ytmjfnpmnhehnkaa
open Go.RowKit
theorem right_gen {v : Vc} (h : v.right = true) : 1 ≤ v.gen ∧ v.gen ≤ 1099511627776 := by
 unfold Vc.right at h
 rw [Bool.and_eq_true, decide_eq_true_eq] at h
 exact h.1
def Kept (id : List UInt8) (v : Vc) : Prop := v = zeroVc ∨ (v.right = true ∧ v.id = id)
structure Kp.In (ad : Option Addr) (cap : Nat) (l : List Kq) (w : World) : Prop where
 len : l.length ≤ cap
 nil : ad = none → cap = 0
 ins : ∀ (i : Nat) (x : Kq), l[i]? = some x → x.In w
 read : 0 < l.length → ∃ a o, ad = some ⟨a, o, none⟩ ∧ a < w.heap.size ∧ ∀ (i : Nat) (x : Kq), l[i]? = some x → w.rangeAt a (o + i * 8) x.C
theorem Kp.In.ext {ad : Option Addr} {cap : Nat} {l : List Kq} {w w' : World} (h : Kp.In ad cap l w) (k : Ex w w') : Kp.In ad cap l w' :=
 ⟨h.len, h.nil, fun i x hx => (h.ins i x hx).ext k, fun h0 => by
  obtain ⟨a, o, e, hB, hc⟩ := h.read h0
  exact ⟨a, o, e, Nat.lt_of_lt_of_le hB k.sz, fun i x hx j v hv => (Below.cell (p := ⟨a, o + i * 8 + j, none⟩) k hB).trans (hc i x hx j v hv)⟩⟩
inductive Kind (v : Vc) (q : Qc) : Vc → Rc → Bool → Prop
 | fresh (ho : q.op = 1 ∨ q.op = 3) (hg : v.gen < 1099511627776) : Kind v q (freshC v q) ⟨0, q.id, v.gen + 1, (freshC v q).left, [], q.client, q.num⟩ true
 | refused (e : Int) (h0 : e ≠ 0) (h23 : e ≠ 23) : Kind v q v ⟨e, q.id, v.gen, 0, [], q.client, q.num⟩ false
 | told (ho : q.op = 2) (hv : v.right = true) (hg : v.gone = false) (hp : q.pin = v.pin) : Kind v q v ⟨0, q.id, v.gen, v.left, v.sec, q.client, q.num⟩ false
 | wrong (ho : q.op = 2) (hv : v.right = true) (hg : v.gone = false) : Kind v q (wrongC v) ⟨23, q.id, v.gen, (wrongC v).left, [], q.client, q.num⟩ true
 | removed (ho : q.op = 4) (hv : v.right = true) (hg : v.gone = false) : Kind v q (goneC v.id v.gen false) ⟨0, q.id, v.gen, 0, [], q.client, q.num⟩ true
theorem Kept.gen {id : List UInt8} {v : Vc} (h : Kept id v) : 0 ≤ v.gen ∧ v.gen ≤ 1099511627776 := by
 rcases h with h | ⟨h, _⟩
 ·rw [h]; exact ⟨Int.le_refl _, by show (0 : Int) ≤ _; decide⟩
 have := right_gen h; omega
end Go.Proofs.Ytmjfnpmnhehnkaa
