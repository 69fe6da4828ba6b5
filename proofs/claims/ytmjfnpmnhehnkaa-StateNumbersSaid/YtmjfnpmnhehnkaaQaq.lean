/- Sd -/
import Derived.Test.YtmjfnpmnhehnkaaQap
set_option maxRecDepth 100000
set_option maxHeartbeats 16000000
namespace Go.Proofs.Ytmjfnpmnhehnkaa
open Go.RowKit
theorem stC_seg (m n : Int) (p : Nat → Pa) (D : Nat → Option Nat) {i : Nat} (hi : i < 16) : ((stC m n p D).drop (2 + i * 4)).take (partC (p i) (D i)).length = partC (p i) (D i) := by
 have hq : (partC (p i) (D i)).length = 4 := rfl
 apply List.ext_getElem?
 intro k
 rw [hq]
 rcases Nat.lt_or_ge k 4 with h | h
 ·rw [List.getElem?_take, if_pos h, List.getElem?_drop]
  exact stC_at m n p D hi h
 rw [List.getElem?_eq_none (by rw [List.length_take]; omega), List.getElem?_eq_none (by rw [hq]; omega)]
def PB9 (w : World) (g : Nat) (p : Pa) (d : Option Nat) : Prop := Bk w g 112 (partC p d).toArray
theorem PB9.ext {w w' : World} {g : Nat} {p : Pa} {d : Option Nat} (h : PB9 w g p d) (k : Ex w w') : PB9 w' g p d := Bk.ext h k
theorem PB9.cells {w : World} {g : Nat} {p : Pa} {d : Option Nat} (h : PB9 w g p d) : w.cell? ⟨g, 0, none⟩ = some (.int .i64 p.role) ∧ w.cell? ⟨g, 1, none⟩ = some (.int .u64 p.ep) ∧ w.cell? ⟨g, 2, none⟩ = some (.int .i64 p.tw) ∧ w.cell? ⟨g, 3, none⟩ = some (.pointer (d.map fun g => ⟨g, 0, none⟩)) :=
 ⟨(Bk.cell h 0).trans rfl, (Bk.cell h 1).trans rfl, (Bk.cell h 2).trans rfl, (Bk.cell h 3).trans rfl⟩
section
variable {o : Oper} {a : Act} {w : World} {K : Act → World → Prop} {Q : Exit → Act → World → Prop}
theorem ld_spa {M : Nat} {m n : Int} {p : Nat → Pa} {D : Nat → Option Nat} (x : Operand) (i : Nat) (hi : i < 16) (ho : o.op = .load 112 x) (ha : a.eval x = .pointer (some ⟨M, 2 + i * 4, none⟩)) (h : Bk w M 115 (stC m n p D).toArray) (hk : K (a.put o.dst (.agg (partC (p i) (D i)).toArray)) w) : o.wp Try.prog a w K Q := by
 obtain ⟨dd, hd⟩ : ∃ d, Try.prog.underlying 112 = some d ∧ d.isRow = true := ⟨_, Try.underlying112, rfl⟩
 exact wp_ldp (C := stC m n p D) (partC (p i) (D i)) x M (2 + i * 4) dd ho ha h (stC_seg m n p D hi) hd.1 hd.2 (by rw [Try.sizePart]; rfl) hk
theorem ld_pb (x : Operand) (g : Nat) (p : Pa) (d : Option Nat) (ho : o.op = .load 112 x) (ha : a.eval x = .pointer (some ⟨g, 0, none⟩)) (h : PB9 w g p d) (hk : K (a.put o.dst (.agg (partC p d).toArray)) w) : o.wp Try.prog a w K Q := by
 obtain ⟨dd, hd⟩ : ∃ d, Try.prog.underlying 112 = some d ∧ d.isRow = true := ⟨_, Try.underlying112, rfl⟩
 exact wp_ldp (C := partC p d) (partC p d) x g 0 dd ho ha h (by simp) hd.1 hd.2 (by rw [Try.sizePart]; rfl) hk
theorem st_pb (x y : Operand) (g : Nat) (p : Pa) (d : Option Nat) (ho : o.op = .store 112 x y) (ha : a.eval x = .pointer (some ⟨g, 0, none⟩)) (hy : a.eval y = .agg (partC p d).toArray) {Y : Array Value} (hB : Bk w g 112 Y) (hY : Y.size = 4) (hk : ∀ w', PB9 w' g p d → Only g w w' → K (a.put o.dst undef) w') : o.wp Try.prog a w K Q := by
 have hB' : Bk w g 112 Y.toList.toArray := by simpa using hB
 refine wp_stp (partC p d) x y g 0 ho ha hy hB' (by show 0 + 4 ≤ Y.toList.length; simp [hY]) (by rw [Try.sizePart]; rfl) (part_ones p d) (fun w' h1 h2 => hk w' ?_ h2)
 have e : Y.toList.take 0 ++ partC p d ++ Y.toList.drop (0 + (partC p d).length) = partC p d := by
  rw [List.take_zero, List.nil_append, List.drop_eq_nil_of_le (by show Y.toList.length ≤ 0 + 4; simp [hY]), List.append_nil]
 rw [e] at h1; exact h1
end
structure S78 (w0 : World) (t : TypeId) (k : Nat) (cs : Array Value) (l : Array Bool) (f : Nat → Value) (w : World) : Prop where
 ex : Ex w0 w
 e7 : l.getD 7 false = true → l.getD 8 false = false → ∃ g z, f 7 = .pointer (some ⟨g, 0, none⟩) ∧ w0.heap.size ≤ g ∧ z.size = k ∧ Bk w g t z
 e8 : l.getD 8 false = true → ∃ g, f 7 = .pointer (some ⟨g, 0, none⟩) ∧ w0.heap.size ≤ g ∧ Bk w g t cs
section
variable {w0 w w' : World} {t : TypeId} {k : Nat} {cs : Array Value} {l : Array Bool} {f : Nat → Value} {x : Value}
theorem S78.start (h0 : ∀ i, l.getD i false = false) (hx : Ex w0 w) : S78 w0 t k cs l f w := ⟨hx, (fun a => by rw [h0] at a; cases a), (fun a => by rw [h0] at a; cases a)⟩
theorem S78.plain (h : S78 w0 t k cs l f w) (kx : Ex w w') (i : Nat) (hi : i ≠ 7 ∧ i ≠ 8) : S78 w0 t k cs (l.setIfInBounds i true) (upd f i x) w' := by
 refine ⟨Ex.trans h.ex kx, fun a b => ?_, fun a => ?_⟩
 ·rw [gset hi.1 false] at a; rw [gset hi.2 false] at b; rw [upd_ne _ _ (Ne.symm hi.1)]
  obtain ⟨g, z, h1, h2, h3, h4⟩ := h.e7 a b
  exact ⟨g, z, h1, h2, h3, h4.ext kx⟩
 rw [gset hi.2 false] at a; rw [upd_ne _ _ (Ne.symm hi.1)]
 obtain ⟨g, h1, h2, h3⟩ := h.e8 a
 exact ⟨g, h1, h2, h3.ext kx⟩
theorem S78.s7 (h : S78 w0 t k cs l f w) (h8 : l.getD 8 false = false) (kx : Ex w w') {z : Array Value} (hz : z.size = k) (hx : x = .pointer (some ⟨w.heap.size, 0, none⟩)) (hb : Bk w' w.heap.size t z) : S78 w0 t k cs (l.setIfInBounds 7 true) (upd f 7 x) w' := by
 refine ⟨Ex.trans h.ex kx, fun _ _ => ?_, fun a => ?_⟩
 ·rw [upd_same]; exact ⟨w.heap.size, z, hx, Below.size h.ex, hz, hb⟩
 rw [gset (show (7 : Nat) ≠ 8 by decide) false, h8] at a; cases a
theorem S78.s8 (h : S78 w0 t k cs l f w) (hl : 8 < l.size) (h7 : l.getD 7 false = true) {g : Nat} (hg : f 7 = .pointer (some ⟨g, 0, none⟩)) (hge : w0.heap.size ≤ g) (ho : Only g w w') (hb : Bk w' g t cs) : S78 w0 t k cs (l.setIfInBounds 8 true) (upd f 8 x) w' := by
 refine ⟨ho.below w0.heap.size hge w0 h.ex, fun _ b => ?_, fun _ => ?_⟩
 ·rw [set_new hl] at b; cases b
 rw [upd_ne _ _ (show (7 : Nat) ≠ 8 by decide)]; exact ⟨g, hg, hge, hb⟩
end
def heldE (p : Pa) : Int := if p.role = 0 then 26 else if p.role = 2 then 27 else 0
theorem held_any (p : Pa) (d : Option Nat) (w : World) : Calls Try.prog 125 #[.agg (partC p d).toArray] w fun e w' => e = .returned (.int .i64 (heldE p)) ∧ Ex w w' := by
 obtain ⟨cs, hcs⟩ : ∃ cs, cs = (partC p d).toArray := ⟨_, rfl⟩
 have A0 : PB9 (w.alloc (.cells cs 112)) w.heap.size p d := by rw [hcs]; exact Bk.new rfl _ _
 have B0 : Hid (Ex w (w.alloc (.cells cs 112))) := Hi (Ex.alloc _ _)
 rw [← hcs]
 obtain ⟨c0, _, _, _⟩ := A0.cells
 clear A0 hcs
 unfold heldE
 by_cases h0 : p.role = 0
 ·rw [if_pos h0]
  go_enter Try.func125, Try.ntmps125
  go_wp2_with fail
  go_ret
  exact ⟨rfl, B0.out⟩
 rw [if_neg h0]
 by_cases h2 : p.role = 2
 ·rw [if_pos h2]
  go_enter Try.func125, Try.ntmps125
  go_wp2_with fail
  go_ret
  exact ⟨rfl, B0.out⟩
 rw [if_neg h2]
 go_enter Try.func125, Try.ntmps125
 go_wp2_with fail
 go_ret
 exact ⟨rfl, B0.out⟩
theorem sget_any (B M : Nat) (m n : Int) (p : Nat → Pa) (D : Nat → Nat) (r : Nat → Value) (v : Nat → List Vt) (id : List UInt8) (hid : id.length = 4) (s : Nat) (hs : Sm.shV id = (s : Int)) (hs16 : s < 16) (c : Vc) (b : Bool) (hdet : GetDet (v s) (idn id) c b) (w : World) (h : SS w B M m n p D r v) : Calls Try.prog 34 #[.pointer (some ⟨M, 0, none⟩), digV id] w (IGet c b w) := by
 obtain ⟨ds, hds⟩ : ∃ ds, ds = (Lib.byteCells id).toArray := ⟨_, rfl⟩
 have B0 : Hid (Bk ((w.alloc (.cells ds 32)).alloc (.cells zeroVt.C.toArray 36)) w.heap.size 32 (Lib.byteCells id).toArray) := Hi (by rw [hds]; exact (Bk.new rfl _ _).more _)
 have Z0 : Hid (VB ((w.alloc (.cells ds 32)).alloc (.cells zeroVt.C.toArray 36)) (w.heap.size + 1) zeroVt) := Hi ⟨zeroVt_ok, Bk.new (by simp) _ _⟩
 have BW : Hid (Ex w ((w.alloc (.cells ds 32)).alloc (.cells zeroVt.C.toArray 36))) := Hi (Ex.trans (Ex.alloc w _) (Ex.alloc _ _))
 have HIM := Hi (h.ext BW.out)
 have HID := Hi hid
 have HDT := Hi hdet
 have HSH := Hi hs
 rw [show (Calls Try.prog 34 #[.pointer (some ⟨M, 0, none⟩), digV id] w) = (Calls Try.prog 34 #[.pointer (some ⟨M, 0, none⟩), .agg ds] w) by rw [hds]; rfl]
 have q0 : (0 : Int) ≤ (s : Int) := by omega
 have q1 : (s : Int) < 16 := by omega
 clear hds hid h hdet hs
 go_enter Try.func34, Try.ntmps34
 go_wp2_with fail
 change Code.wp _ _ _ _ ((w.alloc (.cells ds 32)).alloc (.cells zeroVt.C.toArray 36))
 generalize hw1 : ((w.alloc (.cells ds 32)).alloc (.cells zeroVt.C.toArray 36)) = w1 at *
 clear hw1
 obtain ⟨g, hg⟩ : ∃ g, g = w.heap.size := ⟨_, rfl⟩
 have HG := Hi hg
 rw [← hg] at B0 Z0 ⊢
 clear hg
 obtain ⟨T, hT⟩ : ∃ T : List Sx, T = [.is (.pointer (some ⟨M, 0, none⟩)), .is (digV id), .is (.int .i64 (s : Int)), .is (.pointer (some ⟨M, 0, none⟩)), .is (.pointer (some ⟨M, 2, none⟩)), .is (.pointer (some ⟨M, 2 + s * 4, none⟩)), .is (.pointer (some ⟨M, 2 + s * 4 + 3, none⟩)), .is (.pointer (some ⟨D s, 0, none⟩)), .is (digV id), .of (fun v9 w9 => ∃ x : Vt, v9 = .tuple #[x.V, .bool b] ∧ x.ct = c ∧ TVN w9 x) (fun v9 _ _ h k => by obtain ⟨x, h1, h2, h3⟩ := h; exact ⟨x, h1, h2, h3.ext k⟩), .of (fun v9 w9 => ∃ x : Vt, v9 = x.V ∧ x.ct = c ∧ TVN w9 x) (fun v9 _ _ h k => by obtain ⟨x, h1, h2, h3⟩ := h; exact ⟨x, h1, h2, h3.ext k⟩), .is (.bool b), .any, .is (.bool b)] := ⟨_, rfl⟩
 have HFX : T.map Sx.fixed = [true, true, true, true, true, true, true, true, true, false, false, true, true, true] := by rw [hT]; rfl
 have hFst : ∀ wa wb, (fun w9 => ∃ x : Vt, VB w9 (g + 1) x ∧ x.ct = c ∧ TVN w9 x ∧ Ex w w9) wa → Ex wa wb → (fun w9 => ∃ x : Vt, VB w9 (g + 1) x ∧ x.ct = c ∧ TVN w9 x ∧ Ex w w9) wb := fun _ _ h k9 => by obtain ⟨x, h1, h2, h3, h4⟩ := h; exact ⟨x, ⟨h1.1, h1.2.ext k9⟩, h2, h3.ext k9, Ex.trans h4 k9⟩
 refine wp_region_gen (JE w1 T ([none, none, none, none, none, none, none, none, none, some 12, some 12, none, none, none] : List (Option Nat)) ([(12, 1), (12, 7), (12, 8), (12, 9), (12, 10), (12, 11)] : List (Nat × Nat)) 12 12 (fun w9 => ∃ x : Vt, VB w9 (g + 1) x ∧ x.ct = c ∧ TVN w9 x ∧ Ex w w9)) (by kernel_rfl) (by kernel_rfl) (by kernel_rfl) (fitB_spec (by kernel_rfl)) (fun listed f h => JE.start listed f h) ?_ ?_
 ·intro i o ho
  have hi : i < 14 := (Array.getElem?_eq_some_iff.1 ho).1
  have hi' : i = 0 ∨ i = 1 ∨ i = 2 ∨ i = 3 ∨ i = 4 ∨ i = 5 ∨ i = 6 ∨ i = 7 ∨ i = 8 ∨ i = 9 ∨ i = 10 ∨ i = 11 ∨ i = 12 ∨ i = 13 := by omega
  clear hi
  rcases hi' with rfl | rfl | rfl | rfl | rfl | rfl | rfl | rfl | rfl | rfl | rfl | rfl | rfl | rfl
  all_goals (simp only [List.getElem?_toArray, List.getElem?_cons_zero, List.getElem?_cons_succ, Option.some.injEq] at ho; subst ho; intro listed f a w3 hJ hsz hls hun hdep hout hlat; first | (rw [if_pos (by rfl)]; intro K hK) | skip)
  ·have q0 := hout 0 ob
   exact wp_mw _ rfl q0 (hK _ _ (hJ.plain (by rw [hls]; decide) hFst (by decide) (Ex.refl _) (by rw [hT]; rfl) nh))
  ·have q3 := hout 3 ob
   have hcut : listed.getD 12 false = false := by
    cases hc : listed.getD 12 false with
    | false => rfl
    | true =>
     have hc0 := hJ.ord (12, 1) (by simp) hc
     exact absurd hc0 (by rw [hun]; decide)
   have hpre := hJ.pre hcut
   exact ld_idb (.tmp 3) g id HID.out rfl q3 (B0.out.ext hpre) (hK _ _ (hJ.plain (by rw [hls]; decide) hFst (by decide) (Ex.refl _) (by rw [hT]; rfl) nh))
  ·have q7 := hJ.iv hT (hdep ⟨1, .data⟩ (by simp) rfl) rfl rfl _ rfl _ rfl
   clear hsz hdep hout hlat
   go_simp
   refine (iof_any id HID.out s HSH.out w3).mono ?_
   rintro e w4 ⟨rfl, x4⟩
   exact hK _ _ (hJ.plain (by rw [hls]; decide) hFst (by decide) x4 (by rw [hT]; rfl) nh)
  ·have q6 := hJ.iv hT (hdep ⟨0, .data⟩ (by simp) rfl) rfl rfl _ rfl _ rfl
   clear hsz hdep hout hlat
   go_simp
   exact hK _ _ (hJ.plain (by rw [hls]; decide) hFst (by decide) (Ex.refl _) (by rw [hT]; first | rfl | exact congrArg (Value.int .i64) (by omega) | exact congrArg (Value.int .i64) (by rw [IntKind.wrap_i64]; omega)) nh)
  ·have q9 := hJ.iv hT (hdep ⟨3, .data⟩ (by simp) rfl) rfl rfl _ rfl _ rfl
   clear hsz hdep hout hlat
   go_simp
   exact hK _ _ (hJ.plain (by rw [hls]; decide) hFst (by decide) (Ex.refl _) (by rw [hT]; first | rfl | exact congrArg (Value.int .i64) (by omega) | exact congrArg (Value.int .i64) (by rw [IntKind.wrap_i64]; omega)) nh)
  ·have q10 := hJ.iv hT (hdep ⟨4, .data⟩ (by simp) rfl) rfl rfl _ rfl _ rfl
   have q8 := hJ.iv hT (hdep ⟨2, .data⟩ (by simp) rfl) rfl rfl _ rfl _ rfl
   clear hsz hdep hout hlat
   go_simp
   exact hK _ _ (hJ.plain (by rw [hls]; decide) hFst (by decide) (Ex.refl _) (by rw [hT]; first | rfl | exact congrArg (Value.int .i64) (by omega) | exact congrArg (Value.int .i64) (by rw [IntKind.wrap_i64]; omega)) nh)
  ·have q11 := hJ.iv hT (hdep ⟨5, .data⟩ (by simp) rfl) rfl rfl _ rfl _ rfl
   clear hsz hdep hout hlat
   go_simp
   exact hK _ _ (hJ.plain (by rw [hls]; decide) hFst (by decide) (Ex.refl _) (by rw [hT]; first | rfl | exact congrArg (Value.int .i64) (by omega) | exact congrArg (Value.int .i64) (by rw [IntKind.wrap_i64]; omega)) nh)
  ·have q12 := hJ.iw hT (hdep ⟨6, .data⟩ (by simp) rfl) rfl rfl _ rfl _ rfl
   have hcut : listed.getD 12 false = false := by
    cases hc : listed.getD 12 false with
    | false => rfl
    | true =>
     have hc0 := hJ.ord (12, 7) (by simp) hc
     exact absurd hc0 (by rw [hun]; decide)
   have hpre := hJ.pre hcut
   have c6 := ((HIM.out.ext hpre).cells hs16).2.2.2
   rw [gd9] at q12
   clear hsz hdep hout hlat
   go_simp
   exact hK _ _ (hJ.plain (by rw [hls]; decide) hFst (by decide) (Ex.refl _) (by rw [hT]; rfl) nh)
  ·have q3 := hout 3 ob
   have hcut : listed.getD 12 false = false := by
    cases hc : listed.getD 12 false with
    | false => rfl
    | true =>
     have hc0 := hJ.ord (12, 8) (by simp) hc
     exact absurd hc0 (by rw [hun]; decide)
   have hpre := hJ.pre hcut
   exact ld_idb (.tmp 3) g id HID.out rfl q3 (B0.out.ext hpre) (hK _ _ (hJ.plain (by rw [hls]; decide) hFst (by decide) (Ex.refl _) (by rw [hT]; rfl) nh))
  ·have q13 := hJ.iw hT (hdep ⟨7, .data⟩ (by simp) rfl) rfl rfl _ rfl _ rfl
   have q14 := hJ.iw hT (hdep ⟨8, .data⟩ (by simp) rfl) rfl rfl _ rfl _ rfl
   have hcut : listed.getD 12 false = false := by
    cases hc : listed.getD 12 false with
    | false => rfl
    | true =>
     have hc0 := hJ.ord (12, 9) (by simp) hc
     exact absurd hc0 (by rw [hun]; decide)
   have hpre := hJ.pre hcut
   rw [gd9] at q13 q14
   clear hsz hdep hout hlat
   go_simp
   refine (tget_det id HID.out HDT.out w3 ((HIM.out.ts.tb s hs16).ext hpre)).mono ?_
   rintro e w4 ⟨x, rfl, h1, h2, x4⟩
   exact hK _ _ (hJ.plain (by rw [hls]; decide) hFst (by decide) x4 (by rw [hT]; exact ⟨x, rfl, h1, h2⟩) nh)
  ·have dd15 := hdep ⟨9, .data⟩ (by simp) rfl
   have q15 := dd15.2 _ rfl _ rfl
   have hcut : listed.getD 12 false = false := by
    cases hc : listed.getD 12 false with
    | false => rfl
    | true =>
     have hc0 := hJ.ord (12, 10) (by simp) hc
     exact absurd hc0 (by rw [hun]; decide)
   have h15 := hJ.vals 9 dd15.1 (fun c hc => by have hc : some 12 = some c := hc; cases hc; exact hcut)
   rw [hT] at h15
   have h15 : (fun v9 w9 => ∃ x : Vt, v9 = .tuple #[x.V, .bool b] ∧ x.ct = c ∧ TVN w9 x) (f 9) w3 := h15
   obtain ⟨x15, e15, c15, n15⟩ := h15
   rw [e15] at q15
   clear e15
   clear dd15
   rw [gd9] at q15
   clear hsz hdep hout hlat
   go_simp
   exact hK _ _ (hJ.plain (by rw [hls]; decide) hFst (by decide) (Ex.refl _) (by rw [hT]; exact ⟨x15, rfl, c15, n15⟩) nh)
  ·have dd15 := hdep ⟨9, .data⟩ (by simp) rfl
   have q15 := dd15.2 _ rfl _ rfl
   have hcut : listed.getD 12 false = false := by
    cases hc : listed.getD 12 false with
    | false => rfl
    | true =>
     have hc0 := hJ.ord (12, 11) (by simp) hc
     exact absurd hc0 (by rw [hun]; decide)
   have h15 := hJ.vals 9 dd15.1 (fun c hc => by have hc : some 12 = some c := hc; cases hc; exact hcut)
   rw [hT] at h15
   have h15 : (fun v9 w9 => ∃ x : Vt, v9 = .tuple #[x.V, .bool b] ∧ x.ct = c ∧ TVN w9 x) (f 9) w3 := h15
   obtain ⟨x15, e15, c15, n15⟩ := h15
   rw [e15] at q15
   clear e15
   clear dd15
   rw [gd9] at q15
   clear hsz hdep hout hlat
   go_simp
   exact hK _ _ (hJ.plain (by rw [hls]; decide) hFst (by decide) (Ex.refl _) (by rw [hT]; first | rfl | exact congrArg (Value.int .i64) (by omega) | exact congrArg (Value.int .i64) (by rw [IntKind.wrap_i64]; omega)) nh)
  ·have q4 := hout 4 ob
   have dd16 := hdep ⟨10, .data⟩ (by simp) rfl
   have q16 := dd16.2 _ rfl _ rfl
   have h16 := hJ.vals 10 dd16.1 (fun c hc => by have hc : some 12 = some c := hc; cases hc; exact hun)
   rw [hT] at h16
   have h16 : (fun v9 w9 => ∃ x : Vt, v9 = x.V ∧ x.ct = c ∧ TVN w9 x) (f 10) w3 := h16
   obtain ⟨x16, e16, c16, n16⟩ := h16
   rw [e16] at q16
   clear e16
   clear dd16
   have hl1 := (hdep ⟨1, .phase⟩ (by simp) rfl).1
   have hl7 := (hdep ⟨7, .phase⟩ (by simp) rfl).1
   have hl8 := (hdep ⟨8, .phase⟩ (by simp) rfl).1
   have hl9 := (hdep ⟨9, .chain⟩ (by simp) rfl).1
   have hl10 := (hdep ⟨10, .data⟩ (by simp) rfl).1
   have hl11 := (hdep ⟨11, .phase⟩ (by simp) rfl).1
   have hord : ∀ x ∈ ([(12, 1), (12, 7), (12, 8), (12, 9), (12, 10), (12, 11)] : List (Nat × Nat)), x.1 = 12 → listed.getD x.2 false = true := (by intro x hx he; simp only [List.mem_cons, List.not_mem_nil, or_false] at hx; rcases hx with rfl | rfl | rfl | rfl | rfl | rfl; all_goals first | (exact absurd he (by decide)) | assumption)
   have hcut := hun
   have hpre := hJ.pre hcut
   have hc1 : ∀ j, j ≠ 12 → ([true, true, true, true, true, true, true, true, true, false, false, true, true, true] : List Bool).getD j true = false → listed.getD j false = true → ∃ c, (([none, none, none, none, none, none, none, none, none, some 12, some 12, none, none, none] : List (Option Nat))).getD j none = some c ∧ (c = 12 ∨ listed.getD c false = true) := by
    intro j hj hfj hl
    have hm : j = 9 ∨ j = 10 := by
     rcases Nat.lt_or_ge j 14 with h | h
     ·have hk : j = 0 ∨ j = 1 ∨ j = 2 ∨ j = 3 ∨ j = 4 ∨ j = 5 ∨ j = 6 ∨ j = 7 ∨ j = 8 ∨ j = 9 ∨ j = 10 ∨ j = 11 ∨ j = 12 ∨ j = 13 := by omega
      rcases hk with rfl | rfl | rfl | rfl | rfl | rfl | rfl | rfl | rfl | rfl | rfl | rfl | rfl | rfl <;> first | (exact absurd hfj (by decide)) | simp
     ·rw [List.getD_eq_getElem?_getD, List.getElem?_eq_none (by simpa using h)] at hfj; cases hfj
    rcases hm with rfl | rfl
    ·exact ⟨12, rfl, Or.inl rfl⟩
    ·exact ⟨12, rfl, Or.inl rfl⟩
   have z9 : VB w3 (g + 1) zeroVt := ⟨zeroVt_ok, Z0.out.2.ext hpre⟩
   refine st_v (.tmp 4) (.tmp 16) (g + 1) x16 rfl q4 q16 n16.ok z9.2 (by rfl) (fun w5 hd ho => ?_)
   have hfin : ∃ x : Vt, VB w5 (g + 1) x ∧ x.ct = c ∧ TVN w5 x ∧ Ex w w5 := ⟨x16, hd, c16, ⟨n16.ok, n16.sec.onlyT ho z9.2 (by decide), n16.len⟩, ho.below w.heap.size (by have := HG.out; omega) w (Ex.trans BW.out hpre)⟩
   exact hK _ _ (hJ.mod (by rw [hls]; decide) HFX (by rw [hT]; exact trivial) hc1 (Or.inl rfl) (fun _ => hfin) hord)
  have q17 := hJ.iv hT (hdep ⟨11, .data⟩ (by simp) rfl) rfl rfl _ rfl _ rfl
  clear hsz hdep hout hlat
  go_simp
  exact hK _ _ (hJ.plain (by rw [hls]; decide) hFst (by decide) (Ex.refl _) (by rw [hT]; first | rfl | exact congrArg (Value.int .i64) (by omega) | exact congrArg (Value.int .i64) (by rw [IntKind.wrap_i64]; omega)) nh)
 intro listed f w3 hall hJ
 have f13 : f 13 = .bool b := by
  have h := hJ.vals 13 (hall 13 (by simp)) (fun c hc => by have hc : none = some c := hc; cases hc)
  rw [hT] at h; exact h
 have xf : (fun w9 => ∃ x : Vt, VB w9 (g + 1) x ∧ x.ct = c ∧ TVN w9 x ∧ Ex w w9) w3 := hJ.fin (hall 12 (by simp))
 simp only [putAll, Act.put, List.setIfInBounds_toArray, List.set_cons_zero, List.set_cons_succ, Nat.zero_add, Nat.reduceAdd]
 rw [f13]
 clear f13
 clear hJ hall hT HFX hFst
 obtain ⟨x, h1, h2, h3, h4⟩ := xf
 have HX := Hi (And.intro h1 (And.intro h2 (And.intro h3 h4)))
 clear h1 h2 h3 h4
 go_wp2_with fail
 exact bodyPost_ret (res_v2 rfl _ _ (g + 1) rfl x HX.out.1) rfl ⟨x, rfl, HX.out.2.1, HX.out.2.2.1, HX.out.2.2.2⟩
theorem role_bad (M : Nat) (i : Int) (hi : ¬ (0 ≤ i ∧ i < 16)) (w : World) : Calls Try.prog 18 #[.pointer (some ⟨M, 0, none⟩), .int .i64 i] w fun e w' => e = .returned (.tuple #[.int .i64 0, .int .u64 0, .int .i64 0]) ∧ w = w' := by
 have HB := Hi (isshard_any i w)
 rw [decide_eq_false hi] at HB
 go_enter Try.func18, Try.ntmps18
 go_wp2_with fail
 refine HB.out.mono ?_
 rintro e w2 ⟨rfl, rfl⟩
 go_wp2_with fail
 exact bodyPost_ret (results_tmp3 rfl _ _ _) rfl ⟨rfl, rfl⟩
theorem role_any (B M : Nat) (m n : Int) (p : Nat → Pa) (D : Nat → Nat) (r : Nat → Value) (v : Nat → List Vt) (i : Nat) (hi : i < 16) (w : World) (h : SS w B M m n p D r v) : Calls Try.prog 18 #[.pointer (some ⟨M, 0, none⟩), .int .i64 i] w fun e w' => e = .returned (.tuple #[.int .i64 (p i).role, .int .u64 (p i).ep, .int .i64 (p i).tw]) ∧ Ex w w' := by
 have HS := Hi h
 have q0 : (0 : Int) ≤ (i : Int) := by omega
 have q1 : (i : Int) < 16 := by omega
 have HB := Hi (isshard_any (i : Int) w)
 rw [decide_eq_true (And.intro q0 q1)] at HB
 clear h
 go_enter Try.func18, Try.ntmps18
 go_wp2_with fail
 refine HB.out.mono ?_
 rintro e w2 ⟨rfl, rfl⟩
 clear HB
 go_wp2_with (first | ((with_reducible refine so0 ?_ ?_); (focus rfl)) | ((with_reducible refine so4 [112, 1000 + 112] ?_ ?_); (focus rfl)))
 refine at9 (by go_simp) fun K0 hK => ld_spa _ i hi rfl rfl HS.out.blk (hK _ _ ?_)
 clear hK
 go_wp2_with (first | ((with_reducible refine so0 ?_ ?_); (focus rfl)) | ((with_reducible refine so4 [112, 1000 + 112] ?_ ?_); (focus rfl)))
 refine at9 (by go_simp) fun K0 hK => st_pb _ _ w.heap.size (p i) (some (D i)) rfl rfl rfl (Bk.new rfl _ _) (by rfl) (fun w3 hd ho => hK _ _ ?_)
 clear hK
 have x3 : Ex w w3 := ho.below w.heap.size (Nat.le_refl _) w (Ex.alloc w _)
 obtain ⟨g, hg⟩ : ∃ g, g = w.heap.size := ⟨_, rfl⟩
 rw [← hg] at hd ⊢
 have HD := Hi hd
 have X3 := Hi x3
 clear hd ho hg x3 HS
 go_wp2_with fail
 have hS0 : ∀ (listed : Array Bool) (f : Nat → Value), (∀ i, listed.getD i false = false) → Ex w3 w3.drew := fun _ _ _ => (Below.refl w3.heap.size w3).drew
 obtain ⟨T, hT⟩ : ∃ T : List (Value → Prop), T = [(fun zz => zz = .pointer (some ⟨g, 0, none⟩)), (fun zz => zz = .int .i64 (p i).role), (fun zz => zz = .pointer (some ⟨g, 1, none⟩)), (fun zz => zz = .int .u64 (p i).ep), (fun zz => zz = .pointer (some ⟨g, 2, none⟩)), (fun zz => zz = .int .i64 (p i).tw), (fun zz => zz = .int .i64 (p i).role), (fun zz => zz = .int .u64 (p i).ep), (fun zz => zz = .int .i64 (p i).tw)] := ⟨_, rfl⟩
 refine wp_region_gen (JS T ([] : List (Nat × Nat)) (fun _ _ wq => Ex w3 wq)) (by kernel_rfl) (by kernel_rfl) (by kernel_rfl) (fitB_spec (by kernel_rfl)) (fun listed f h => JS.start listed f h (hS0 listed f h)) ?_ ?_
 ·intro i o ho
  have hi : i < 9 := (Array.getElem?_eq_some_iff.1 ho).1
  have hi' : i = 0 ∨ i = 1 ∨ i = 2 ∨ i = 3 ∨ i = 4 ∨ i = 5 ∨ i = 6 ∨ i = 7 ∨ i = 8 := by omega
  clear hi
  rcases hi' with rfl | rfl | rfl | rfl | rfl | rfl | rfl | rfl | rfl
  all_goals (simp only [List.getElem?_toArray, List.getElem?_cons_zero, List.getElem?_cons_succ, Option.some.injEq] at ho; subst ho; intro listed f a w4 hJ hsz hls hun hdep hout hlat; first | (rw [if_pos (by rfl)]; intro K hK) | skip)
  ·have q7 := hout 7 ob
   rw [gd9] at q7
   clear hsz hdep hout hlat
   go_simp
   exact hK _ _ (hJ.na hls hT hJ.st)
  ·have q17 := hJ.iq hT (hdep ⟨0, .data⟩ (by simp) rfl) rfl _ rfl _ rfl
   have c9 := (HD.out.ext hJ.st).cells.1
   clear hsz hdep hout hlat
   go_simp
   exact hK _ _ (hJ.nx hls hT rfl rfl hJ.st nh)
  ·have q7 := hout 7 ob
   rw [gd9] at q7
   clear hsz hdep hout hlat
   go_simp
   exact hK _ _ (hJ.na hls hT hJ.st)
  ·have q19 := hJ.iq hT (hdep ⟨2, .data⟩ (by simp) rfl) rfl _ rfl _ rfl
   have c9 := (HD.out.ext hJ.st).cells.2.1
   clear hsz hdep hout hlat
   go_simp
   exact hK _ _ (hJ.nx hls hT rfl rfl hJ.st nh)
  ·have q7 := hout 7 ob
   rw [gd9] at q7
   clear hsz hdep hout hlat
   go_simp
   exact hK _ _ (hJ.na hls hT hJ.st)
  ·have q21 := hJ.iq hT (hdep ⟨4, .data⟩ (by simp) rfl) rfl _ rfl _ rfl
   have c9 := (HD.out.ext hJ.st).cells.2.2.1
   clear hsz hdep hout hlat
   go_simp
   exact hK _ _ (hJ.nx hls hT rfl rfl hJ.st nh)
  ·have q18 := hJ.iq hT (hdep ⟨1, .data⟩ (by simp) rfl) rfl _ rfl _ rfl
   clear hsz hdep hout hlat
   go_simp
   exact hK _ _ (hJ.na hls hT hJ.st)
  ·have q20 := hJ.iq hT (hdep ⟨3, .data⟩ (by simp) rfl) rfl _ rfl _ rfl
   clear hsz hdep hout hlat
   go_simp
   exact hK _ _ (hJ.na hls hT hJ.st)
  have q22 := hJ.iq hT (hdep ⟨5, .data⟩ (by simp) rfl) rfl _ rfl _ rfl
  clear hsz hdep hout hlat
  go_simp
  exact hK _ _ (hJ.na hls hT hJ.st)
 intro listed f w4 hall hJ
 have f6 := hJ.fa hT (hall 6 (by simp)) rfl
 have f7 := hJ.fa hT (hall 7 (by simp)) rfl
 have f8 := hJ.fa hT (hall 8 (by simp)) rfl
 have hst := hJ.st
 simp only [putAll, Act.put, List.setIfInBounds_toArray, List.set_cons_zero, List.set_cons_succ, Nat.zero_add, Nat.reduceAdd]
 have X4 : Hid (Ex w w4) := Hi (Ex.trans X3.out hst)
 clear hst hS0
 rw [f6, f7, f8]
 clear f6 f7 f8
 clear hJ hall hT
 go_wp2_with fail
 exact bodyPost_ret (results_tmp3 rfl _ _ _) rfl ⟨rfl, X4.out⟩
theorem svaults_any (B M : Nat) (m n : Int) (p : Nat → Pa) (D : Nat → Nat) (r : Nat → Value) (v : Nat → List Vt) (i : Nat) (hi : i < 16) (w : World) (h : SS w B M m n p D r v) : Calls Try.prog 26 #[.pointer (some ⟨M, 0, none⟩), .int .i64 i] w (RowPost ((v i).map Vt.ct) w) := by
 have HS := Hi h
 have q0 : (0 : Int) ≤ (i : Int) := by omega
 have q1 : (i : Int) < 16 := by omega
 have HB := Hi (isshard_any (i : Int) w)
 rw [decide_eq_true (And.intro q0 q1)] at HB
 have c3 := (HS.out.cells hi).2.2.2
 clear h
 go_enter Try.func26, Try.ntmps26
 go_wp2_with fail
 refine HB.out.mono ?_
 rintro e w2 ⟨rfl, rfl⟩
 clear HB
 go_wp2_with fail
 refine (tall_any (D i) (r i) (v i) w (HS.out.ts.tb i hi)).mono ?_
 rintro e w2 ⟨x, ys, rfl, h1, h2, x2⟩
 have HR : Hid (RowPost ((v i).map Vt.ct) w (.returned x) w2) := Hi ⟨x, ys, rfl, h1, h2, x2⟩
 clear h1 h2 x2 c3
 go_wp2_with fail
 go_ret
 exact HR.out
theorem svaults_bad (M : Nat) (i : Int) (hi : ¬ (0 ≤ i ∧ i < 16)) (w : World) : Calls Try.prog 26 #[.pointer (some ⟨M, 0, none⟩), .int .i64 i] w fun e w' => e = .returned (.slice none 0 0) ∧ w = w' := by
 have HB := Hi (isshard_any i w)
 rw [decide_eq_false hi] at HB
 go_enter Try.func26, Try.ntmps26
 go_wp2_with fail
 refine HB.out.mono ?_
 rintro e w2 ⟨rfl, rfl⟩
 go_wp2_with fail
 go_ret
 exact ⟨rfl, rfl⟩
end Go.Proofs.Ytmjfnpmnhehnkaa
