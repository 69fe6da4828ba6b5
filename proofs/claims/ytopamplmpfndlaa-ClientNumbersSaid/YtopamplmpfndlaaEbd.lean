/- Cc, Cf -/
import Derived.Test.YtopamplmpfndlaaEbb
set_option maxRecDepth 100000
set_option maxHeartbeats 16000000
namespace Go.Proofs.Ytopamplmpfndlaa.Cl
open Go.RowKit
theorem ifp {c : Prop} [Decidable c] {A B : Prop} (h : c) (k : A) : if c then A else B := by rw [if_pos h]; exact k
theorem wp_asg9 {o : Oper} {a : Act} {w : World} {K : Act → World → Prop} {Q : Exit → Act → World → Prop} (x : Operand) (ho : o.op = .assign x) (h : K (a.put o.dst (a.eval x)) w) : o.wp Try.prog a w K Q := by
 unfold Oper.wp
 simp [execOp, ho, Result.andThen]
 exact h
theorem rreq_any (q : Qt) (w : World) (hq : QI w q) (hm : q.sec.l.length ≤ 900000) : Calls Try.prog 65 #[q.V] w (RowPost (reqB q.ct) w) := by
 obtain ⟨ds, hds⟩ : ∃ ds, ds = q.C.toArray := ⟨_, rfl⟩
 have Q0 : Hid (QB (w.alloc (.cells ds 47)) w.heap.size q) := Hi ⟨hq.1, by rw [hds]; exact Bk.new rfl _ _⟩
 have KT : Hid (Kt [5] w.heap.size w (w.alloc (.cells ds 47))) := Hi ((Ex.alloc _ _).kt (Nat.le_refl _))
 have HS := Hi hq.2
 have HM := Hi hm
 obtain ⟨B, hB⟩ : ∃ B, B = w.heap.size := ⟨_, rfl⟩
 have IDN := Hi hq.1.idN
 have PINN := Hi hq.1.pinN
 have OWNN := Hi hq.1.ownN
 have KEYN := Hi hq.1.keyN
 have N0 := Hi hq.1.num0
 have N1 := Hi hq.1.num1
 rw [show (Calls Try.prog 65 #[q.V] w) = (Calls Try.prog 65 #[.agg ds] w) by rw [hds]; rfl]
 clear hds hq hm
 have hB0 : B ≤ (w.alloc (.cells ds 47)).heap.size := by rw [hB]; exact (Ex.alloc _ _).size
 go_enter Try.func65, Try.ntmps65
 go_wp2_with fail
 generalize (w.alloc (.cells ds 47)) = wr at *
 rw [← hB] at Q0 KT HS ⊢
 have HBs := Hi hB
 clear hB
 obtain ⟨T, hT⟩ : ∃ T : List Bx, T = [.is (.pointer (some ⟨B, 0, none⟩)), .is (.int .i64 q.op), .is (.int .u8 (q.op % 256)), .own ([Sm.by8 q.op]), .is (.pointer (some ⟨B, 1, none⟩)), .is (.slice (some ⟨B, 1, none⟩) 4 4), .own ([Sm.by8 q.op] ++ q.id), .own ([Sm.by8 q.op] ++ q.id)] := ⟨_, rfl⟩
 refine wp_region_gen (JB B wr T ([none, none, none, some 6, none, none, some 7, none] : List (Option Nat)) (.slice none 0 0) ([]) 8) (by kernel_rfl) (by kernel_rfl) (by kernel_rfl) (fitB_spec (by kernel_rfl)) (fun listed f h => JB.start hB0 (RU.of (ownU_nil _ _)) listed f h) ?_ ?_
 ·intro i o ho
  have hi : i < 8 := (Array.getElem?_eq_some_iff.1 ho).1
  have hi' : i = 0 ∨ i = 1 ∨ i = 2 ∨ i = 3 ∨ i = 4 ∨ i = 5 ∨ i = 6 ∨ i = 7 := by omega
  clear hi
  rcases hi' with rfl | rfl | rfl | rfl | rfl | rfl | rfl | rfl
  all_goals (simp only [List.getElem?_toArray, List.getElem?_cons_zero, List.getElem?_cons_succ, Option.some.injEq] at ho; subst ho; intro listed f a w2 hJ hsz hls hun hdep hout hlat; first | (rw [if_pos (by rfl)]; intro K hK) | skip)
  ·have q1 := hout 1 ob
   rw [gd9] at q1
   clear hsz hdep hout hlat
   go_simp
   exact hK _ _ (hJ.pn hls hT)
  ·have dd4 := hdep ⟨0, .data⟩ (by simp) rfl
   have q4 := dd4.2 _ rfl _ rfl
   have h4 := hJ.vals 0 dd4.1
   rw [hT] at h4
   rw [show f 0 = .pointer (some ⟨B, 0, none⟩) from h4] at q4
   clear h4 dd4
   rw [gd9] at q4
   have c6 := (QB.kt Q0.out hJ.ext).cells.1
   clear hsz hdep hout hlat
   go_simp
   exact hK _ _ (hJ.pn hls hT)
  ·have dd5 := hdep ⟨1, .data⟩ (by simp) rfl
   have q5 := dd5.2 _ rfl _ rfl
   have h5 := hJ.vals 1 dd5.1
   rw [hT] at h5
   rw [show f 1 = .int .i64 q.op from h5] at q5
   clear h5 dd5
   rw [gd9] at q5
   clear hsz hdep hout hlat
   go_simp
   exact hK _ _ (hJ.pn hls hT)
  ·have dd6 := hdep ⟨2, .data⟩ (by simp) rfl
   have q6 := dd6.2 _ rfl _ rfl
   have h6 := hJ.vals 2 dd6.1
   rw [hT] at h6
   rw [show f 2 = .int .u8 (q.op % 256) from h6] at q6
   clear h6 dd6
   rw [gd9] at q6
   clear hsz hdep hout hlat
   go_simp
   exact hK _ _ (hJ.fresh (by rw [hls]; decide) (by rw [hT]; rfl) (Ex.alloc _ _) (by rw [hT]; exact trivial) (RU.of (lit_own _ _ ([Sm.by8 q.op]) (by simp [Lib.byteCells, Sm.by8_int]) (by simp))))
  ·have q1 := hout 1 ob
   rw [gd9] at q1
   clear hsz hdep hout hlat
   go_simp
   exact hK _ _ (hJ.pn hls hT)
  ·have dd8 := hdep ⟨4, .data⟩ (by simp) rfl
   have q8 := dd8.2 _ rfl _ rfl
   have h8 := hJ.vals 4 dd8.1
   rw [hT] at h8
   rw [show f 4 = .pointer (some ⟨B, 1, none⟩) from h8] at q8
   clear h8 dd8
   rw [gd9] at q8
   clear hsz hdep hout hlat
   go_simp
   exact hK _ _ (hJ.pn hls hT)
  ·have dd7 := hdep ⟨3, .data⟩ (by simp) rfl
   have q7 := dd7.2 _ rfl _ rfl
   have h7 : ownU w2 B (f 3) ([Sm.by8 q.op]) := RU.own (hJ.rows 3 _ dd7.1 (by rw [hT]; rfl) (fun c hc => by have hc : some 6 = some c := hc; cases hc; exact hun))
   have dd9 := hdep ⟨5, .data⟩ (by simp) rfl
   have q9 := dd9.2 _ rfl _ rfl
   have h9 := hJ.vals 5 dd9.1
   rw [hT] at h9
   rw [show f 5 = .slice (some ⟨B, 1, none⟩) 4 4 from h9] at q9
   clear h9 dd9
   refine wp_cat (.tmp 7) (.tmp 9) rfl B (f 3) ([Sm.by8 q.op]) q7 h7 hJ.lo (⟨some ⟨B, 1, none⟩, 4, q.id⟩) ((q9).trans (by unfold Pt.V; rw [IDN.out])) (by have h := bk_part (QB.kt Q0.out hJ.ext).2 1 q.id (Qt.id_at Q0.out.1); rw [IDN.out] at h; exact h) (by simp only [List.length_append, List.length_cons, List.length_nil, IDN.out, PINN.out, OWNN.out, KEYN.out, numL_len]; omega) (fun v9 w9 o9 g9 l9 => hK _ _ ?_)
   exact hJ.app (by rw [hls]; decide) hun dd7.1 rfl (by rw [hT]; rfl) (by rw [hT]; rfl) (by rw [hT]; exact trivial) g9 l9 (RU.of o9)
  have dd10 := hdep ⟨6, .data⟩ (by simp) rfl
  have q10 := dd10.2 _ rfl _ rfl
  have h10 : ownU w2 B (f 6) ([Sm.by8 q.op] ++ q.id) := RU.own (hJ.rows 6 _ dd10.1 (by rw [hT]; rfl) (fun c hc => by have hc : some 7 = some c := hc; cases hc; exact hun))
  refine wp_asg9 _ rfl (hK _ _ ?_)
  rw [show a.eval (.tmp 10) = f 6 from q10]
  exact hJ.app (by rw [hls]; decide) hun dd10.1 rfl (by rw [hT]; rfl) (by rw [hT]; rfl) (by rw [hT]; exact trivial) (World.grownBy.refl _ _) (Or.inl rfl) (RU.of h10)
 intro listed f w2 hall hJ
 have o7 : ownU w2 B (f 7) ([Sm.by8 q.op] ++ q.id) := RU.own (hJ.rows 7 _ (hall 7 (by simp)) (by rw [hT]; rfl) (fun c hc => by have hc : none = some c := hc; cases hc))
 have xk := hJ.ext
 have xl := hJ.lo
 simp only [putAll, Act.put, List.setIfInBounds_toArray, List.set_cons_zero, List.set_cons_succ, Nat.zero_add, Nat.reduceAdd]
 generalize f 7 = v1 at o7 ⊢
 clear hJ hall hT
 have O1 := Hi o7
 replace Q0 := Hi (QB.kt Q0.out xk)
 replace KT := Hi (KT.out.trans xk)
 clear xk hB0 o7
 have hB0 := xl
 clear xl
 go_wp2_with fail
 clear wr
 generalize w2 = wr at *
 obtain ⟨T, hT⟩ : ∃ T : List Bx, T = [.is (v1), .is (.pointer (some ⟨B, 5, none⟩)), .is (.slice (some ⟨B, 5, none⟩) 16 16), .own ([Sm.by8 q.op] ++ q.id ++ q.pin), .is (.pointer (some ⟨B, 22, none⟩)), .is (.int .i64 q.lim), .is (.int .u8 (q.lim % 256)), .own ([Sm.by8 q.lim]), .own ([Sm.by8 q.op] ++ q.id ++ q.pin ++ [Sm.by8 q.lim]), .is (.pointer (some ⟨B, 23, none⟩)), .is (.slice (some ⟨B, 23, none⟩) 16 16), .own ([Sm.by8 q.op] ++ q.id ++ q.pin ++ [Sm.by8 q.lim] ++ q.own), .own ([Sm.by8 q.op] ++ q.id ++ q.pin ++ [Sm.by8 q.lim] ++ q.own)] := ⟨_, rfl⟩
 refine wp_region_gen (JB B wr T ([none, none, none, some 8, none, none, none, none, some 11, none, none, some 12, none] : List (Option Nat)) (v1) ([Sm.by8 q.op] ++ q.id) 3) (by kernel_rfl) (by kernel_rfl) (by kernel_rfl) (fitB_spec (by kernel_rfl)) (fun listed f h => JB.start hB0 (RU.of O1.out) listed f h) ?_ ?_
 ·intro i o ho
  have hi : i < 13 := (Array.getElem?_eq_some_iff.1 ho).1
  have hi' : i = 0 ∨ i = 1 ∨ i = 2 ∨ i = 3 ∨ i = 4 ∨ i = 5 ∨ i = 6 ∨ i = 7 ∨ i = 8 ∨ i = 9 ∨ i = 10 ∨ i = 11 ∨ i = 12 := by omega
  clear hi
  rcases hi' with rfl | rfl | rfl | rfl | rfl | rfl | rfl | rfl | rfl | rfl | rfl | rfl | rfl
  all_goals (simp only [List.getElem?_toArray, List.getElem?_cons_zero, List.getElem?_cons_succ, Option.some.injEq] at ho; subst ho; intro listed f a w2 hJ hsz hls hun hdep hout hlat; first | (rw [if_pos (by rfl)]; intro K hK) | skip)
  ·have q3 := hlat 3 12 _ rfl rfl ⟨⟨0, .phase⟩, by simp, rfl, rfl⟩
   exact wp_mw _ rfl q3 (hK _ _ (hJ.pn hls hT))
  ·have q1 := hout 1 ob
   rw [gd9] at q1
   clear hsz hdep hout hlat
   go_simp
   exact hK _ _ (hJ.pn hls hT)
  ·have dd12 := hdep ⟨1, .data⟩ (by simp) rfl
   have q12 := dd12.2 _ rfl _ rfl
   have h12 := hJ.vals 1 dd12.1
   rw [hT] at h12
   rw [show f 1 = .pointer (some ⟨B, 5, none⟩) from h12] at q12
   clear h12 dd12
   rw [gd9] at q12
   clear hsz hdep hout hlat
   go_simp
   exact hK _ _ (hJ.pn hls hT)
  ·have dd11 := hdep ⟨0, .data⟩ (by simp) rfl
   have q11 := dd11.2 _ rfl _ rfl
   have h11 := hJ.vals 0 dd11.1
   rw [hT] at h11
   rw [show f 0 = v1 from h11] at q11
   clear h11 dd11
   have dd13 := hdep ⟨2, .data⟩ (by simp) rfl
   have q13 := dd13.2 _ rfl _ rfl
   have h13 := hJ.vals 2 dd13.1
   rw [hT] at h13
   rw [show f 2 = .slice (some ⟨B, 5, none⟩) 16 16 from h13] at q13
   clear h13 dd13
   have h11 := RU.own (hJ.row0 hun)
   refine wp_cat (.tmp 11) (.tmp 13) rfl B (v1) ([Sm.by8 q.op] ++ q.id) q11 h11 hJ.lo (⟨some ⟨B, 5, none⟩, 16, q.pin⟩) ((q13).trans (by unfold Pt.V; rw [PINN.out])) (by have h := bk_part (QB.kt Q0.out hJ.ext).2 5 q.pin (Qt.pin_at Q0.out.1); rw [PINN.out] at h; exact h) (by simp only [List.length_append, List.length_cons, List.length_nil, IDN.out, PINN.out, OWNN.out, KEYN.out, numL_len]; omega) (fun v9 w9 o9 g9 l9 => hK _ _ ?_)
   exact hJ.app0 (by rw [hls]; decide) hun (by rw [hT]; rfl) (by rw [hT]; exact trivial) g9 l9 (RU.of o9)
  ·have q1 := hout 1 ob
   rw [gd9] at q1
   clear hsz hdep hout hlat
   go_simp
   exact hK _ _ (hJ.pn hls hT)
  ·have dd15 := hdep ⟨4, .data⟩ (by simp) rfl
   have q15 := dd15.2 _ rfl _ rfl
   have h15 := hJ.vals 4 dd15.1
   rw [hT] at h15
   rw [show f 4 = .pointer (some ⟨B, 22, none⟩) from h15] at q15
   clear h15 dd15
   rw [gd9] at q15
   have c6 := (QB.kt Q0.out hJ.ext).cells.2.2.1
   clear hsz hdep hout hlat
   go_simp
   exact hK _ _ (hJ.pn hls hT)
  ·have dd16 := hdep ⟨5, .data⟩ (by simp) rfl
   have q16 := dd16.2 _ rfl _ rfl
   have h16 := hJ.vals 5 dd16.1
   rw [hT] at h16
   rw [show f 5 = .int .i64 q.lim from h16] at q16
   clear h16 dd16
   rw [gd9] at q16
   clear hsz hdep hout hlat
   go_simp
   exact hK _ _ (hJ.pn hls hT)
  ·have dd17 := hdep ⟨6, .data⟩ (by simp) rfl
   have q17 := dd17.2 _ rfl _ rfl
   have h17 := hJ.vals 6 dd17.1
   rw [hT] at h17
   rw [show f 6 = .int .u8 (q.lim % 256) from h17] at q17
   clear h17 dd17
   rw [gd9] at q17
   clear hsz hdep hout hlat
   go_simp
   exact hK _ _ (hJ.fresh (by rw [hls]; decide) (by rw [hT]; rfl) (Ex.alloc _ _) (by rw [hT]; exact trivial) (RU.of (lit_own _ _ ([Sm.by8 q.lim]) (by simp [Lib.byteCells, Sm.by8_int]) (by simp))))
  ·have dd14 := hdep ⟨3, .data⟩ (by simp) rfl
   have q14 := dd14.2 _ rfl _ rfl
   have h14 : ownU w2 B (f 3) ([Sm.by8 q.op] ++ q.id ++ q.pin) := RU.own (hJ.rows 3 _ dd14.1 (by rw [hT]; rfl) (fun c hc => by have hc : some 8 = some c := hc; cases hc; exact hun))
   have dd18 := hdep ⟨7, .data⟩ (by simp) rfl
   have q18 := dd18.2 _ rfl _ rfl
   have h18 : ownU w2 B (f 7) ([Sm.by8 q.lim]) := RU.own (hJ.rows 7 _ dd18.1 (by rw [hT]; rfl) (fun c hc => by have hc : none = some c := hc; cases hc))
   obtain ⟨p9, e9, n9, i9, _⟩ := own_pt h18
   refine wp_cat (.tmp 14) (.tmp 18) rfl B (f 3) ([Sm.by8 q.op] ++ q.id ++ q.pin) q14 h14 hJ.lo (p9) (q18.trans e9) i9 (by rw [n9]; simp only [List.length_append, List.length_cons, List.length_nil, IDN.out, PINN.out, OWNN.out, KEYN.out, numL_len]; omega) (fun v9 w9 o9 g9 l9 => hK _ _ ?_)
   rw [n9] at o9
   exact hJ.app (by rw [hls]; decide) hun dd14.1 rfl (by rw [hT]; rfl) (by rw [hT]; rfl) (by rw [hT]; exact trivial) g9 l9 (RU.of o9)
  ·have q1 := hout 1 ob
   rw [gd9] at q1
   clear hsz hdep hout hlat
   go_simp
   exact hK _ _ (hJ.pn hls hT)
  ·have dd20 := hdep ⟨9, .data⟩ (by simp) rfl
   have q20 := dd20.2 _ rfl _ rfl
   have h20 := hJ.vals 9 dd20.1
   rw [hT] at h20
   rw [show f 9 = .pointer (some ⟨B, 23, none⟩) from h20] at q20
   clear h20 dd20
   rw [gd9] at q20
   clear hsz hdep hout hlat
   go_simp
   exact hK _ _ (hJ.pn hls hT)
  ·have dd19 := hdep ⟨8, .data⟩ (by simp) rfl
   have q19 := dd19.2 _ rfl _ rfl
   have h19 : ownU w2 B (f 8) ([Sm.by8 q.op] ++ q.id ++ q.pin ++ [Sm.by8 q.lim]) := RU.own (hJ.rows 8 _ dd19.1 (by rw [hT]; rfl) (fun c hc => by have hc : some 11 = some c := hc; cases hc; exact hun))
   have dd21 := hdep ⟨10, .data⟩ (by simp) rfl
   have q21 := dd21.2 _ rfl _ rfl
   have h21 := hJ.vals 10 dd21.1
   rw [hT] at h21
   rw [show f 10 = .slice (some ⟨B, 23, none⟩) 16 16 from h21] at q21
   clear h21 dd21
   refine wp_cat (.tmp 19) (.tmp 21) rfl B (f 8) ([Sm.by8 q.op] ++ q.id ++ q.pin ++ [Sm.by8 q.lim]) q19 h19 hJ.lo (⟨some ⟨B, 23, none⟩, 16, q.own⟩) ((q21).trans (by unfold Pt.V; rw [OWNN.out])) (by have h := bk_part (QB.kt Q0.out hJ.ext).2 23 q.own (Qt.own_at Q0.out.1); rw [OWNN.out] at h; exact h) (by simp only [List.length_append, List.length_cons, List.length_nil, IDN.out, PINN.out, OWNN.out, KEYN.out, numL_len]; omega) (fun v9 w9 o9 g9 l9 => hK _ _ ?_)
   exact hJ.app (by rw [hls]; decide) hun dd19.1 rfl (by rw [hT]; rfl) (by rw [hT]; rfl) (by rw [hT]; exact trivial) g9 l9 (RU.of o9)
  have dd22 := hdep ⟨11, .data⟩ (by simp) rfl
  have q22 := dd22.2 _ rfl _ rfl
  have h22 : ownU w2 B (f 11) ([Sm.by8 q.op] ++ q.id ++ q.pin ++ [Sm.by8 q.lim] ++ q.own) := RU.own (hJ.rows 11 _ dd22.1 (by rw [hT]; rfl) (fun c hc => by have hc : some 12 = some c := hc; cases hc; exact hun))
  refine wp_asg9 _ rfl (hK _ _ ?_)
  rw [show a.eval (.tmp 22) = f 11 from q22]
  exact hJ.app (by rw [hls]; decide) hun dd22.1 rfl (by rw [hT]; rfl) (by rw [hT]; rfl) (by rw [hT]; exact trivial) (World.grownBy.refl _ _) (Or.inl rfl) (RU.of h22)
 intro listed f w2 hall hJ
 have o12 : ownU w2 B (f 12) ([Sm.by8 q.op] ++ q.id ++ q.pin ++ [Sm.by8 q.lim] ++ q.own) := RU.own (hJ.rows 12 _ (hall 12 (by simp)) (by rw [hT]; rfl) (fun c hc => by have hc : none = some c := hc; cases hc))
 have xk := hJ.ext
 have xl := hJ.lo
 simp only [putAll, Act.put, List.setIfInBounds_toArray, List.set_cons_zero, List.set_cons_succ, Nat.zero_add, Nat.reduceAdd]
 generalize f 12 = v2 at o12 ⊢
 clear hJ hall hT
 have O2 := Hi o12
 replace Q0 := Hi (QB.kt Q0.out xk)
 replace KT := Hi (KT.out.trans xk)
 clear xk hB0 o12 O1
 have hB0 := xl
 clear xl
 go_wp2_with fail
 clear wr
 generalize w2 = wr at *
 obtain ⟨T, hT⟩ : ∃ T : List Bx, T = [.is (v2), .is (.pointer (some ⟨B, 39, none⟩)), .is (.slice (some ⟨B, 39, none⟩) 16 16), .own ([Sm.by8 q.op] ++ q.id ++ q.pin ++ [Sm.by8 q.lim] ++ q.own ++ q.key), .is (.pointer (some ⟨B, 55, none⟩)), .is (.int .i64 q.client), .is (.int .u8 (q.client % 256)), .own ([Sm.by8 q.client]), .own ([Sm.by8 q.op] ++ q.id ++ q.pin ++ [Sm.by8 q.lim] ++ q.own ++ q.key ++ [Sm.by8 q.client]), .is (.pointer (some ⟨B, 56, none⟩)), .is (.int .u64 q.num), .own (Sm.numL q.num), .own ([Sm.by8 q.op] ++ q.id ++ q.pin ++ [Sm.by8 q.lim] ++ q.own ++ q.key ++ [Sm.by8 q.client] ++ Sm.numL q.num), .own ([Sm.by8 q.op] ++ q.id ++ q.pin ++ [Sm.by8 q.lim] ++ q.own ++ q.key ++ [Sm.by8 q.client] ++ Sm.numL q.num)] := ⟨_, rfl⟩
 refine wp_region_gen (JB B wr T ([none, none, none, some 8, none, none, none, none, some 12, none, none, none, some 13, none] : List (Option Nat)) (v2) ([Sm.by8 q.op] ++ q.id ++ q.pin ++ [Sm.by8 q.lim] ++ q.own) 3) (by kernel_rfl) (by kernel_rfl) (by kernel_rfl) (fitB_spec (by kernel_rfl)) (fun listed f h => JB.start hB0 (RU.of O2.out) listed f h) ?_ ?_
 ·intro i o ho
  have hi : i < 14 := (Array.getElem?_eq_some_iff.1 ho).1
  have hi' : i = 0 ∨ i = 1 ∨ i = 2 ∨ i = 3 ∨ i = 4 ∨ i = 5 ∨ i = 6 ∨ i = 7 ∨ i = 8 ∨ i = 9 ∨ i = 10 ∨ i = 11 ∨ i = 12 ∨ i = 13 := by omega
  clear hi
  rcases hi' with rfl | rfl | rfl | rfl | rfl | rfl | rfl | rfl | rfl | rfl | rfl | rfl | rfl | rfl
  all_goals (simp only [List.getElem?_toArray, List.getElem?_cons_zero, List.getElem?_cons_succ, Option.some.injEq] at ho; subst ho; intro listed f a w2 hJ hsz hls hun hdep hout hlat; first | (rw [if_pos (by rfl)]; intro K hK) | skip)
  ·have q3 := hlat 3 13 _ rfl rfl ⟨⟨0, .phase⟩, by simp, rfl, rfl⟩
   exact wp_mw _ rfl q3 (hK _ _ (hJ.pn hls hT))
  ·have q1 := hout 1 ob
   rw [gd9] at q1
   clear hsz hdep hout hlat
   go_simp
   exact hK _ _ (hJ.pn hls hT)
  ·have dd24 := hdep ⟨1, .data⟩ (by simp) rfl
   have q24 := dd24.2 _ rfl _ rfl
   have h24 := hJ.vals 1 dd24.1
   rw [hT] at h24
   rw [show f 1 = .pointer (some ⟨B, 39, none⟩) from h24] at q24
   clear h24 dd24
   rw [gd9] at q24
   clear hsz hdep hout hlat
   go_simp
   exact hK _ _ (hJ.pn hls hT)
  ·have dd23 := hdep ⟨0, .data⟩ (by simp) rfl
   have q23 := dd23.2 _ rfl _ rfl
   have h23 := hJ.vals 0 dd23.1
   rw [hT] at h23
   rw [show f 0 = v2 from h23] at q23
   clear h23 dd23
   have dd25 := hdep ⟨2, .data⟩ (by simp) rfl
   have q25 := dd25.2 _ rfl _ rfl
   have h25 := hJ.vals 2 dd25.1
   rw [hT] at h25
   rw [show f 2 = .slice (some ⟨B, 39, none⟩) 16 16 from h25] at q25
   clear h25 dd25
   have h23 := RU.own (hJ.row0 hun)
   refine wp_cat (.tmp 23) (.tmp 25) rfl B (v2) ([Sm.by8 q.op] ++ q.id ++ q.pin ++ [Sm.by8 q.lim] ++ q.own) q23 h23 hJ.lo (⟨some ⟨B, 39, none⟩, 16, q.key⟩) ((q25).trans (by unfold Pt.V; rw [KEYN.out])) (by have h := bk_part (QB.kt Q0.out hJ.ext).2 39 q.key (Qt.key_at Q0.out.1); rw [KEYN.out] at h; exact h) (by simp only [List.length_append, List.length_cons, List.length_nil, IDN.out, PINN.out, OWNN.out, KEYN.out, numL_len]; omega) (fun v9 w9 o9 g9 l9 => hK _ _ ?_)
   exact hJ.app0 (by rw [hls]; decide) hun (by rw [hT]; rfl) (by rw [hT]; exact trivial) g9 l9 (RU.of o9)
  ·have q1 := hout 1 ob
   rw [gd9] at q1
   clear hsz hdep hout hlat
   go_simp
   exact hK _ _ (hJ.pn hls hT)
  ·have dd27 := hdep ⟨4, .data⟩ (by simp) rfl
   have q27 := dd27.2 _ rfl _ rfl
   have h27 := hJ.vals 4 dd27.1
   rw [hT] at h27
   rw [show f 4 = .pointer (some ⟨B, 55, none⟩) from h27] at q27
   clear h27 dd27
   rw [gd9] at q27
   have c6 := (QB.kt Q0.out hJ.ext).cells.2.2.2.1
   clear hsz hdep hout hlat
   go_simp
   exact hK _ _ (hJ.pn hls hT)
  ·have dd28 := hdep ⟨5, .data⟩ (by simp) rfl
   have q28 := dd28.2 _ rfl _ rfl
   have h28 := hJ.vals 5 dd28.1
   rw [hT] at h28
   rw [show f 5 = .int .i64 q.client from h28] at q28
   clear h28 dd28
   rw [gd9] at q28
   clear hsz hdep hout hlat
   go_simp
   exact hK _ _ (hJ.pn hls hT)
  ·have dd29 := hdep ⟨6, .data⟩ (by simp) rfl
   have q29 := dd29.2 _ rfl _ rfl
   have h29 := hJ.vals 6 dd29.1
   rw [hT] at h29
   rw [show f 6 = .int .u8 (q.client % 256) from h29] at q29
   clear h29 dd29
   rw [gd9] at q29
   clear hsz hdep hout hlat
   go_simp
   exact hK _ _ (hJ.fresh (by rw [hls]; decide) (by rw [hT]; rfl) (Ex.alloc _ _) (by rw [hT]; exact trivial) (RU.of (lit_own _ _ ([Sm.by8 q.client]) (by simp [Lib.byteCells, Sm.by8_int]) (by simp))))
  ·have dd26 := hdep ⟨3, .data⟩ (by simp) rfl
   have q26 := dd26.2 _ rfl _ rfl
   have h26 : ownU w2 B (f 3) ([Sm.by8 q.op] ++ q.id ++ q.pin ++ [Sm.by8 q.lim] ++ q.own ++ q.key) := RU.own (hJ.rows 3 _ dd26.1 (by rw [hT]; rfl) (fun c hc => by have hc : some 8 = some c := hc; cases hc; exact hun))
   have dd30 := hdep ⟨7, .data⟩ (by simp) rfl
   have q30 := dd30.2 _ rfl _ rfl
   have h30 : ownU w2 B (f 7) ([Sm.by8 q.client]) := RU.own (hJ.rows 7 _ dd30.1 (by rw [hT]; rfl) (fun c hc => by have hc : none = some c := hc; cases hc))
   obtain ⟨p9, e9, n9, i9, _⟩ := own_pt h30
   refine wp_cat (.tmp 26) (.tmp 30) rfl B (f 3) ([Sm.by8 q.op] ++ q.id ++ q.pin ++ [Sm.by8 q.lim] ++ q.own ++ q.key) q26 h26 hJ.lo (p9) (q30.trans e9) i9 (by rw [n9]; simp only [List.length_append, List.length_cons, List.length_nil, IDN.out, PINN.out, OWNN.out, KEYN.out, numL_len]; omega) (fun v9 w9 o9 g9 l9 => hK _ _ ?_)
   rw [n9] at o9
   exact hJ.app (by rw [hls]; decide) hun dd26.1 rfl (by rw [hT]; rfl) (by rw [hT]; rfl) (by rw [hT]; exact trivial) g9 l9 (RU.of o9)
  ·have q1 := hout 1 ob
   rw [gd9] at q1
   clear hsz hdep hout hlat
   go_simp
   exact hK _ _ (hJ.pn hls hT)
  ·have dd32 := hdep ⟨9, .data⟩ (by simp) rfl
   have q32 := dd32.2 _ rfl _ rfl
   have h32 := hJ.vals 9 dd32.1
   rw [hT] at h32
   rw [show f 9 = .pointer (some ⟨B, 56, none⟩) from h32] at q32
   clear h32 dd32
   rw [gd9] at q32
   have c6 := (QB.kt Q0.out hJ.ext).cells.2.2.2.2
   clear hsz hdep hout hlat
   go_simp
   exact hK _ _ (hJ.pn hls hT)
  ·have dd33 := hdep ⟨10, .data⟩ (by simp) rfl
   have q33 := dd33.2 _ rfl _ rfl
   have h33 := hJ.vals 10 dd33.1
   rw [hT] at h33
   rw [show f 10 = .int .u64 q.num from h33] at q33
   clear h33 dd33
   rw [gd9] at q33
   clear hsz hdep hout hlat
   go_simp
   refine (rnum_row q.num N0.out N1.out w2).mono ?_
   rintro e w3 ⟨v, rfl, on, xn⟩
   exact hK _ _ (hJ.fresh (by rw [hls]; decide) (by rw [hT]; rfl) xn (by rw [hT]; exact trivial) (RU.of on))
  ·have dd31 := hdep ⟨8, .data⟩ (by simp) rfl
   have q31 := dd31.2 _ rfl _ rfl
   have h31 : ownU w2 B (f 8) ([Sm.by8 q.op] ++ q.id ++ q.pin ++ [Sm.by8 q.lim] ++ q.own ++ q.key ++ [Sm.by8 q.client]) := RU.own (hJ.rows 8 _ dd31.1 (by rw [hT]; rfl) (fun c hc => by have hc : some 12 = some c := hc; cases hc; exact hun))
   have dd34 := hdep ⟨11, .data⟩ (by simp) rfl
   have q34 := dd34.2 _ rfl _ rfl
   have h34 : ownU w2 B (f 11) (Sm.numL q.num) := RU.own (hJ.rows 11 _ dd34.1 (by rw [hT]; rfl) (fun c hc => by have hc : none = some c := hc; cases hc))
   obtain ⟨p9, e9, n9, i9, _⟩ := own_pt h34
   refine wp_cat (.tmp 31) (.tmp 34) rfl B (f 8) ([Sm.by8 q.op] ++ q.id ++ q.pin ++ [Sm.by8 q.lim] ++ q.own ++ q.key ++ [Sm.by8 q.client]) q31 h31 hJ.lo (p9) (q34.trans e9) i9 (by rw [n9]; simp only [List.length_append, List.length_cons, List.length_nil, IDN.out, PINN.out, OWNN.out, KEYN.out, numL_len]; omega) (fun v9 w9 o9 g9 l9 => hK _ _ ?_)
   rw [n9] at o9
   exact hJ.app (by rw [hls]; decide) hun dd31.1 rfl (by rw [hT]; rfl) (by rw [hT]; rfl) (by rw [hT]; exact trivial) g9 l9 (RU.of o9)
  have dd35 := hdep ⟨12, .data⟩ (by simp) rfl
  have q35 := dd35.2 _ rfl _ rfl
  have h35 : ownU w2 B (f 12) ([Sm.by8 q.op] ++ q.id ++ q.pin ++ [Sm.by8 q.lim] ++ q.own ++ q.key ++ [Sm.by8 q.client] ++ Sm.numL q.num) := RU.own (hJ.rows 12 _ dd35.1 (by rw [hT]; rfl) (fun c hc => by have hc : some 13 = some c := hc; cases hc; exact hun))
  refine wp_asg9 _ rfl (hK _ _ ?_)
  rw [show a.eval (.tmp 35) = f 12 from q35]
  exact hJ.app (by rw [hls]; decide) hun dd35.1 rfl (by rw [hT]; rfl) (by rw [hT]; rfl) (by rw [hT]; exact trivial) (World.grownBy.refl _ _) (Or.inl rfl) (RU.of h35)
 intro listed f w2 hall hJ
 have o13 : ownU w2 B (f 13) ([Sm.by8 q.op] ++ q.id ++ q.pin ++ [Sm.by8 q.lim] ++ q.own ++ q.key ++ [Sm.by8 q.client] ++ Sm.numL q.num) := RU.own (hJ.rows 13 _ (hall 13 (by simp)) (by rw [hT]; rfl) (fun c hc => by have hc : none = some c := hc; cases hc))
 have xk := hJ.ext
 have xl := hJ.lo
 simp only [putAll, Act.put, List.setIfInBounds_toArray, List.set_cons_zero, List.set_cons_succ, Nat.zero_add, Nat.reduceAdd]
 generalize f 13 = v3 at o13 ⊢
 clear hJ hall hT
 have O3 := Hi o13
 replace Q0 := Hi (QB.kt Q0.out xk)
 replace KT := Hi (KT.out.trans xk)
 clear xk hB0 o13 O2
 have hB0 := xl
 clear xl
 go_wp2_with fail
 clear wr
 generalize w2 = wr at *
 obtain ⟨m, hm⟩ : ∃ m, m = q.sec.l.length := ⟨_, rfl⟩
 have hpv : q.sec.V = .slice q.sec.ad m q.sec.cap := by unfold Pt.V; rw [hm]
 have HPV := Hi hpv
 have HMM := Hi hm
 clear hm hpv
 obtain ⟨T, hT⟩ : ∃ T : List Bx, T = [.is (v3), .is (.pointer (some ⟨B, 21, none⟩)), .is (.slice q.sec.ad m q.sec.cap), .is (.int .i64 m), .is (.int .u8 ((m : Int) % 256)), .own ([Sm.by8 m]), .own ([Sm.by8 q.op] ++ q.id ++ q.pin ++ [Sm.by8 q.lim] ++ q.own ++ q.key ++ [Sm.by8 q.client] ++ Sm.numL q.num ++ [Sm.by8 m]), .is (.pointer (some ⟨B, 21, none⟩)), .is (.slice q.sec.ad m q.sec.cap), .own ([Sm.by8 q.op] ++ q.id ++ q.pin ++ [Sm.by8 q.lim] ++ q.own ++ q.key ++ [Sm.by8 q.client] ++ Sm.numL q.num ++ [Sm.by8 m] ++ q.sec.l), .own ([Sm.by8 q.op] ++ q.id ++ q.pin ++ [Sm.by8 q.lim] ++ q.own ++ q.key ++ [Sm.by8 q.client] ++ Sm.numL q.num ++ [Sm.by8 m] ++ q.sec.l)] := ⟨_, rfl⟩
 refine wp_region_gen (JB B wr T ([none, none, none, none, none, none, some 9, none, none, some 10, none] : List (Option Nat)) (v3) ([Sm.by8 q.op] ++ q.id ++ q.pin ++ [Sm.by8 q.lim] ++ q.own ++ q.key ++ [Sm.by8 q.client] ++ Sm.numL q.num) 6) (by kernel_rfl) (by kernel_rfl) (by kernel_rfl) (fitB_spec (by kernel_rfl)) (fun listed f h => JB.start hB0 (RU.of O3.out) listed f h) ?_ ?_
 ·intro i o ho
  have hi : i < 11 := (Array.getElem?_eq_some_iff.1 ho).1
  have hi' : i = 0 ∨ i = 1 ∨ i = 2 ∨ i = 3 ∨ i = 4 ∨ i = 5 ∨ i = 6 ∨ i = 7 ∨ i = 8 ∨ i = 9 ∨ i = 10 := by omega
  clear hi
  rcases hi' with rfl | rfl | rfl | rfl | rfl | rfl | rfl | rfl | rfl | rfl | rfl
  all_goals (simp only [List.getElem?_toArray, List.getElem?_cons_zero, List.getElem?_cons_succ, Option.some.injEq] at ho; subst ho; intro listed f a w2 hJ hsz hls hun hdep hout hlat; first | (rw [if_pos (by rfl)]; intro K hK) | skip)
  ·have q3 := hout 3 ob
   exact wp_mw _ rfl q3 (hK _ _ (hJ.pn hls hT))
  ·have q1 := hout 1 ob
   rw [gd9] at q1
   clear hsz hdep hout hlat
   go_simp
   exact hK _ _ (hJ.pn hls hT)
  ·have dd37 := hdep ⟨1, .data⟩ (by simp) rfl
   have q37 := dd37.2 _ rfl _ rfl
   have h37 := hJ.vals 1 dd37.1
   rw [hT] at h37
   rw [show f 1 = .pointer (some ⟨B, 21, none⟩) from h37] at q37
   clear h37 dd37
   rw [gd9] at q37
   have c6 := (QB.kt Q0.out hJ.ext).cells.2.1.trans (congrArg some HPV.out)
   clear hsz hdep hout hlat
   go_simp
   exact hK _ _ (hJ.pn hls hT)
  ·have dd38 := hdep ⟨2, .data⟩ (by simp) rfl
   have q38 := dd38.2 _ rfl _ rfl
   have h38 := hJ.vals 2 dd38.1
   rw [hT] at h38
   rw [show f 2 = .slice q.sec.ad m q.sec.cap from h38] at q38
   clear h38 dd38
   rw [gd9] at q38
   clear hsz hdep hout hlat
   go_simp
   exact hK _ _ (hJ.pn hls hT)
  ·have dd39 := hdep ⟨3, .data⟩ (by simp) rfl
   have q39 := dd39.2 _ rfl _ rfl
   have h39 := hJ.vals 3 dd39.1
   rw [hT] at h39
   rw [show f 3 = .int .i64 m from h39] at q39
   clear h39 dd39
   rw [gd9] at q39
   clear hsz hdep hout hlat
   go_simp
   exact hK _ _ (hJ.pn hls hT)
  ·have dd40 := hdep ⟨4, .data⟩ (by simp) rfl
   have q40 := dd40.2 _ rfl _ rfl
   have h40 := hJ.vals 4 dd40.1
   rw [hT] at h40
   rw [show f 4 = .int .u8 ((m : Int) % 256) from h40] at q40
   clear h40 dd40
   rw [gd9] at q40
   clear hsz hdep hout hlat
   go_simp
   exact hK _ _ (hJ.fresh (by rw [hls]; decide) (by rw [hT]; rfl) (Ex.alloc _ _) (by rw [hT]; exact trivial) (RU.of (lit_own _ _ ([Sm.by8 m]) (by simp [Lib.byteCells, Sm.by8_int]) (by simp))))
  ·have dd36 := hdep ⟨0, .data⟩ (by simp) rfl
   have q36 := dd36.2 _ rfl _ rfl
   have h36 := hJ.vals 0 dd36.1
   rw [hT] at h36
   rw [show f 0 = v3 from h36] at q36
   clear h36 dd36
   have dd41 := hdep ⟨5, .data⟩ (by simp) rfl
   have q41 := dd41.2 _ rfl _ rfl
   have h41 : ownU w2 B (f 5) ([Sm.by8 m]) := RU.own (hJ.rows 5 _ dd41.1 (by rw [hT]; rfl) (fun c hc => by have hc : none = some c := hc; cases hc))
   obtain ⟨p9, e9, n9, i9, _⟩ := own_pt h41
   have h36 := RU.own (hJ.row0 hun)
   refine wp_cat (.tmp 36) (.tmp 41) rfl B (v3) ([Sm.by8 q.op] ++ q.id ++ q.pin ++ [Sm.by8 q.lim] ++ q.own ++ q.key ++ [Sm.by8 q.client] ++ Sm.numL q.num) q36 h36 hJ.lo (p9) (q41.trans e9) i9 (by rw [n9]; simp only [List.length_append, List.length_cons, List.length_nil, IDN.out, PINN.out, OWNN.out, KEYN.out, numL_len]; omega) (fun v9 w9 o9 g9 l9 => hK _ _ ?_)
   rw [n9] at o9
   exact hJ.app0 (by rw [hls]; decide) hun (by rw [hT]; rfl) (by rw [hT]; exact trivial) g9 l9 (RU.of o9)
  ·have q1 := hout 1 ob
   rw [gd9] at q1
   clear hsz hdep hout hlat
   go_simp
   exact hK _ _ (hJ.pn hls hT)
  ·have dd43 := hdep ⟨7, .data⟩ (by simp) rfl
   have q43 := dd43.2 _ rfl _ rfl
   have h43 := hJ.vals 7 dd43.1
   rw [hT] at h43
   rw [show f 7 = .pointer (some ⟨B, 21, none⟩) from h43] at q43
   clear h43 dd43
   rw [gd9] at q43
   have c6 := (QB.kt Q0.out hJ.ext).cells.2.1.trans (congrArg some HPV.out)
   clear hsz hdep hout hlat
   go_simp
   exact hK _ _ (hJ.pn hls hT)
  ·have dd42 := hdep ⟨6, .data⟩ (by simp) rfl
   have q42 := dd42.2 _ rfl _ rfl
   have h42 : ownU w2 B (f 6) ([Sm.by8 q.op] ++ q.id ++ q.pin ++ [Sm.by8 q.lim] ++ q.own ++ q.key ++ [Sm.by8 q.client] ++ Sm.numL q.num ++ [Sm.by8 m]) := RU.own (hJ.rows 6 _ dd42.1 (by rw [hT]; rfl) (fun c hc => by have hc : some 9 = some c := hc; cases hc; exact hun))
   have dd44 := hdep ⟨8, .data⟩ (by simp) rfl
   have q44 := dd44.2 _ rfl _ rfl
   have h44 := hJ.vals 8 dd44.1
   rw [hT] at h44
   rw [show f 8 = .slice q.sec.ad m q.sec.cap from h44] at q44
   clear h44 dd44
   refine wp_cat (.tmp 42) (.tmp 44) rfl B (f 6) ([Sm.by8 q.op] ++ q.id ++ q.pin ++ [Sm.by8 q.lim] ++ q.own ++ q.key ++ [Sm.by8 q.client] ++ Sm.numL q.num ++ [Sm.by8 m]) q42 h42 hJ.lo (q.sec) ((q44).trans HPV.out.symm) ((HS.out.keep (KT.out.trans hJ.ext).below).more hJ.lo) (by have := HM.out; simp only [List.length_append, List.length_cons, List.length_nil, IDN.out, PINN.out, OWNN.out, KEYN.out, numL_len]; omega) (fun v9 w9 o9 g9 l9 => hK _ _ ?_)
   exact hJ.app (by rw [hls]; decide) hun dd42.1 rfl (by rw [hT]; rfl) (by rw [hT]; rfl) (by rw [hT]; exact trivial) g9 l9 (RU.of o9)
  have dd45 := hdep ⟨9, .data⟩ (by simp) rfl
  have q45 := dd45.2 _ rfl _ rfl
  have h45 : ownU w2 B (f 9) ([Sm.by8 q.op] ++ q.id ++ q.pin ++ [Sm.by8 q.lim] ++ q.own ++ q.key ++ [Sm.by8 q.client] ++ Sm.numL q.num ++ [Sm.by8 m] ++ q.sec.l) := RU.own (hJ.rows 9 _ dd45.1 (by rw [hT]; rfl) (fun c hc => by have hc : some 10 = some c := hc; cases hc; exact hun))
  refine wp_asg9 _ rfl (hK _ _ ?_)
  rw [show a.eval (.tmp 45) = f 9 from q45]
  exact hJ.app (by rw [hls]; decide) hun dd45.1 rfl (by rw [hT]; rfl) (by rw [hT]; rfl) (by rw [hT]; exact trivial) (World.grownBy.refl _ _) (Or.inl rfl) (RU.of h45)
 intro listed f w2 hall hJ
 have o10 : ownU w2 B (f 10) ([Sm.by8 q.op] ++ q.id ++ q.pin ++ [Sm.by8 q.lim] ++ q.own ++ q.key ++ [Sm.by8 q.client] ++ Sm.numL q.num ++ [Sm.by8 m] ++ q.sec.l) := RU.own (hJ.rows 10 _ (hall 10 (by simp)) (by rw [hT]; rfl) (fun c hc => by have hc : none = some c := hc; cases hc))
 have xk := hJ.ext
 have xl := hJ.lo
 simp only [putAll, Act.put, List.setIfInBounds_toArray, List.set_cons_zero, List.set_cons_succ, Nat.zero_add, Nat.reduceAdd]
 generalize f 10 = v4 at o10 ⊢
 clear hJ hall hT
 have O4 := Hi o10
 replace KT := Hi (KT.out.trans xk)
 clear xk hB0 o10 O3 xl
 go_wp2_with fail
 go_ret
 exact ⟨v4, rfl, by have h := O4.out; rw [HMM.out, HBs.out] at h; simpa only [reqB, Qt.ct, List.append_assoc, List.cons_append, List.nil_append] using h, by have h := KT.out.below; rw [HBs.out] at h; exact h⟩
theorem rrep_any (q : Rt) (w : World) (hq : RI w q) (hm : q.sec.l.length ≤ 900000) : Calls Try.prog 22 #[q.V] w (RowPost (repB q.ct) w) := by
 obtain ⟨ds, hds⟩ : ∃ ds, ds = q.C.toArray := ⟨_, rfl⟩
 have Q0 : Hid (RB (w.alloc (.cells ds 29)) w.heap.size q) := Hi ⟨hq.1, by rw [hds]; exact Bk.new rfl _ _⟩
 have KT : Hid (Kt [5] w.heap.size w (w.alloc (.cells ds 29))) := Hi ((Ex.alloc _ _).kt (Nat.le_refl _))
 have HS := Hi hq.2
 have HM := Hi hm
 obtain ⟨B, hB⟩ : ∃ B, B = w.heap.size := ⟨_, rfl⟩
 have IDN := Hi hq.1.idN
 have N0 := Hi hq.1.num0
 have N1 := Hi hq.1.num1
 have G0 := Hi hq.1.gen0
 have G1 := Hi hq.1.gen1
 rw [show (Calls Try.prog 22 #[q.V] w) = (Calls Try.prog 22 #[.agg ds] w) by rw [hds]; rfl]
 clear hds hq hm
 have hB0 : B ≤ (w.alloc (.cells ds 29)).heap.size := by rw [hB]; exact (Ex.alloc _ _).size
 go_enter Try.func22, Try.ntmps22
 go_wp2_with fail
 generalize (w.alloc (.cells ds 29)) = wr at *
 rw [← hB] at Q0 KT HS ⊢
 have HBs := Hi hB
 clear hB
 obtain ⟨T, hT⟩ : ∃ T : List Bx, T = [.is (.pointer (some ⟨B, 0, none⟩)), .is (.int .i64 q.why), .is (.int .u8 (q.why % 256)), .own ([Sm.by8 q.why]), .is (.pointer (some ⟨B, 1, none⟩)), .is (.slice (some ⟨B, 1, none⟩) 4 4), .own ([Sm.by8 q.why] ++ q.id), .own ([Sm.by8 q.why] ++ q.id)] := ⟨_, rfl⟩
 refine wp_region_gen (JB B wr T ([none, none, none, some 6, none, none, some 7, none] : List (Option Nat)) (.slice none 0 0) ([]) 8) (by kernel_rfl) (by kernel_rfl) (by kernel_rfl) (fitB_spec (by kernel_rfl)) (fun listed f h => JB.start hB0 (RU.of (ownU_nil _ _)) listed f h) ?_ ?_
 ·intro i o ho
  have hi : i < 8 := (Array.getElem?_eq_some_iff.1 ho).1
  have hi' : i = 0 ∨ i = 1 ∨ i = 2 ∨ i = 3 ∨ i = 4 ∨ i = 5 ∨ i = 6 ∨ i = 7 := by omega
  clear hi
  rcases hi' with rfl | rfl | rfl | rfl | rfl | rfl | rfl | rfl
  all_goals (simp only [List.getElem?_toArray, List.getElem?_cons_zero, List.getElem?_cons_succ, Option.some.injEq] at ho; subst ho; intro listed f a w2 hJ hsz hls hun hdep hout hlat; first | (rw [if_pos (by rfl)]; intro K hK) | skip)
  ·have q1 := hout 1 ob
   rw [gd9] at q1
   clear hsz hdep hout hlat
   go_simp
   exact hK _ _ (hJ.pn hls hT)
  ·have dd4 := hdep ⟨0, .data⟩ (by simp) rfl
   have q4 := dd4.2 _ rfl _ rfl
   have h4 := hJ.vals 0 dd4.1
   rw [hT] at h4
   rw [show f 0 = .pointer (some ⟨B, 0, none⟩) from h4] at q4
   clear h4 dd4
   rw [gd9] at q4
   have c6 := (RB.kt Q0.out hJ.ext).cells.1
   clear hsz hdep hout hlat
   go_simp
   exact hK _ _ (hJ.pn hls hT)
  ·have dd5 := hdep ⟨1, .data⟩ (by simp) rfl
   have q5 := dd5.2 _ rfl _ rfl
   have h5 := hJ.vals 1 dd5.1
   rw [hT] at h5
   rw [show f 1 = .int .i64 q.why from h5] at q5
   clear h5 dd5
   rw [gd9] at q5
   clear hsz hdep hout hlat
   go_simp
   exact hK _ _ (hJ.pn hls hT)
  ·have dd6 := hdep ⟨2, .data⟩ (by simp) rfl
   have q6 := dd6.2 _ rfl _ rfl
   have h6 := hJ.vals 2 dd6.1
   rw [hT] at h6
   rw [show f 2 = .int .u8 (q.why % 256) from h6] at q6
   clear h6 dd6
   rw [gd9] at q6
   clear hsz hdep hout hlat
   go_simp
   exact hK _ _ (hJ.fresh (by rw [hls]; decide) (by rw [hT]; rfl) (Ex.alloc _ _) (by rw [hT]; exact trivial) (RU.of (lit_own _ _ ([Sm.by8 q.why]) (by simp [Lib.byteCells, Sm.by8_int]) (by simp))))
  ·have q1 := hout 1 ob
   rw [gd9] at q1
   clear hsz hdep hout hlat
   go_simp
   exact hK _ _ (hJ.pn hls hT)
  ·have dd8 := hdep ⟨4, .data⟩ (by simp) rfl
   have q8 := dd8.2 _ rfl _ rfl
   have h8 := hJ.vals 4 dd8.1
   rw [hT] at h8
   rw [show f 4 = .pointer (some ⟨B, 1, none⟩) from h8] at q8
   clear h8 dd8
   rw [gd9] at q8
   clear hsz hdep hout hlat
   go_simp
   exact hK _ _ (hJ.pn hls hT)
  ·have dd7 := hdep ⟨3, .data⟩ (by simp) rfl
   have q7 := dd7.2 _ rfl _ rfl
   have h7 : ownU w2 B (f 3) ([Sm.by8 q.why]) := RU.own (hJ.rows 3 _ dd7.1 (by rw [hT]; rfl) (fun c hc => by have hc : some 6 = some c := hc; cases hc; exact hun))
   have dd9 := hdep ⟨5, .data⟩ (by simp) rfl
   have q9 := dd9.2 _ rfl _ rfl
   have h9 := hJ.vals 5 dd9.1
   rw [hT] at h9
   rw [show f 5 = .slice (some ⟨B, 1, none⟩) 4 4 from h9] at q9
   clear h9 dd9
   refine wp_cat (.tmp 7) (.tmp 9) rfl B (f 3) ([Sm.by8 q.why]) q7 h7 hJ.lo (⟨some ⟨B, 1, none⟩, 4, q.id⟩) ((q9).trans (by unfold Pt.V; rw [IDN.out])) (by have h := bk_part (RB.kt Q0.out hJ.ext).2 1 q.id (Rt.id_at Q0.out.1); rw [IDN.out] at h; exact h) (by simp only [List.length_append, List.length_cons, List.length_nil, IDN.out, numL_len]; omega) (fun v9 w9 o9 g9 l9 => hK _ _ ?_)
   exact hJ.app (by rw [hls]; decide) hun dd7.1 rfl (by rw [hT]; rfl) (by rw [hT]; rfl) (by rw [hT]; exact trivial) g9 l9 (RU.of o9)
  have dd10 := hdep ⟨6, .data⟩ (by simp) rfl
  have q10 := dd10.2 _ rfl _ rfl
  have h10 : ownU w2 B (f 6) ([Sm.by8 q.why] ++ q.id) := RU.own (hJ.rows 6 _ dd10.1 (by rw [hT]; rfl) (fun c hc => by have hc : some 7 = some c := hc; cases hc; exact hun))
  refine wp_asg9 _ rfl (hK _ _ ?_)
  rw [show a.eval (.tmp 10) = f 6 from q10]
  exact hJ.app (by rw [hls]; decide) hun dd10.1 rfl (by rw [hT]; rfl) (by rw [hT]; rfl) (by rw [hT]; exact trivial) (World.grownBy.refl _ _) (Or.inl rfl) (RU.of h10)
 intro listed f w2 hall hJ
 have o7 : ownU w2 B (f 7) ([Sm.by8 q.why] ++ q.id) := RU.own (hJ.rows 7 _ (hall 7 (by simp)) (by rw [hT]; rfl) (fun c hc => by have hc : none = some c := hc; cases hc))
 have xk := hJ.ext
 have xl := hJ.lo
 simp only [putAll, Act.put, List.setIfInBounds_toArray, List.set_cons_zero, List.set_cons_succ, Nat.zero_add, Nat.reduceAdd]
 generalize f 7 = v1 at o7 ⊢
 clear hJ hall hT
 have O1 := Hi o7
 replace Q0 := Hi (RB.kt Q0.out xk)
 replace KT := Hi (KT.out.trans xk)
 clear xk hB0 o7
 have hB0 := xl
 clear xl
 go_wp2_with fail
 clear wr
 generalize w2 = wr at *
 obtain ⟨T, hT⟩ : ∃ T : List Bx, T = [.is (v1), .is (.pointer (some ⟨B, 5, none⟩)), .is (.int .u64 q.gen), .own (Sm.numL q.gen), .own ([Sm.by8 q.why] ++ q.id ++ Sm.numL q.gen), .is (.pointer (some ⟨B, 6, none⟩)), .is (.int .i64 q.left), .is (.int .u8 (q.left % 256)), .is (.pointer (some ⟨B, 8, none⟩)), .is (.int .i64 q.client), .is (.int .u8 (q.client % 256)), .own ([Sm.by8 q.left, Sm.by8 q.client]), .own ([Sm.by8 q.why] ++ q.id ++ Sm.numL q.gen ++ [Sm.by8 q.left, Sm.by8 q.client]), .own ([Sm.by8 q.why] ++ q.id ++ Sm.numL q.gen ++ [Sm.by8 q.left, Sm.by8 q.client])] := ⟨_, rfl⟩
 refine wp_region_gen (JB B wr T ([none, none, none, none, some 12, none, none, none, none, none, none, none, some 13, none] : List (Option Nat)) (v1) ([Sm.by8 q.why] ++ q.id) 4) (by kernel_rfl) (by kernel_rfl) (by kernel_rfl) (fitB_spec (by kernel_rfl)) (fun listed f h => JB.start hB0 (RU.of O1.out) listed f h) ?_ ?_
 ·intro i o ho
  have hi : i < 14 := (Array.getElem?_eq_some_iff.1 ho).1
  have hi' : i = 0 ∨ i = 1 ∨ i = 2 ∨ i = 3 ∨ i = 4 ∨ i = 5 ∨ i = 6 ∨ i = 7 ∨ i = 8 ∨ i = 9 ∨ i = 10 ∨ i = 11 ∨ i = 12 ∨ i = 13 := by omega
  clear hi
  rcases hi' with rfl | rfl | rfl | rfl | rfl | rfl | rfl | rfl | rfl | rfl | rfl | rfl | rfl | rfl
  all_goals (simp only [List.getElem?_toArray, List.getElem?_cons_zero, List.getElem?_cons_succ, Option.some.injEq] at ho; subst ho; intro listed f a w2 hJ hsz hls hun hdep hout hlat; first | (rw [if_pos (by rfl)]; intro K hK) | skip)
  ·have q3 := hlat 3 13 _ rfl rfl ⟨⟨0, .phase⟩, by simp, rfl, rfl⟩
   exact wp_mw _ rfl q3 (hK _ _ (hJ.pn hls hT))
  ·have q1 := hout 1 ob
   rw [gd9] at q1
   clear hsz hdep hout hlat
   go_simp
   exact hK _ _ (hJ.pn hls hT)
  ·have dd12 := hdep ⟨1, .data⟩ (by simp) rfl
   have q12 := dd12.2 _ rfl _ rfl
   have h12 := hJ.vals 1 dd12.1
   rw [hT] at h12
   rw [show f 1 = .pointer (some ⟨B, 5, none⟩) from h12] at q12
   clear h12 dd12
   rw [gd9] at q12
   have c6 := (RB.kt Q0.out hJ.ext).cells.2.1
   clear hsz hdep hout hlat
   go_simp
   exact hK _ _ (hJ.pn hls hT)
  ·have dd13 := hdep ⟨2, .data⟩ (by simp) rfl
   have q13 := dd13.2 _ rfl _ rfl
   have h13 := hJ.vals 2 dd13.1
   rw [hT] at h13
   rw [show f 2 = .int .u64 q.gen from h13] at q13
   clear h13 dd13
   rw [gd9] at q13
   clear hsz hdep hout hlat
   go_simp
   refine (rnum_row q.gen G0.out G1.out w2).mono ?_
   rintro e w3 ⟨v, rfl, on, xn⟩
   exact hK _ _ (hJ.fresh (by rw [hls]; decide) (by rw [hT]; rfl) xn (by rw [hT]; exact trivial) (RU.of on))
  ·have dd11 := hdep ⟨0, .data⟩ (by simp) rfl
   have q11 := dd11.2 _ rfl _ rfl
   have h11 := hJ.vals 0 dd11.1
   rw [hT] at h11
   rw [show f 0 = v1 from h11] at q11
   clear h11 dd11
   have dd14 := hdep ⟨3, .data⟩ (by simp) rfl
   have q14 := dd14.2 _ rfl _ rfl
   have h14 : ownU w2 B (f 3) (Sm.numL q.gen) := RU.own (hJ.rows 3 _ dd14.1 (by rw [hT]; rfl) (fun c hc => by have hc : none = some c := hc; cases hc))
   obtain ⟨p9, e9, n9, i9, _⟩ := own_pt h14
   have h11 := RU.own (hJ.row0 hun)
   refine wp_cat (.tmp 11) (.tmp 14) rfl B (v1) ([Sm.by8 q.why] ++ q.id) q11 h11 hJ.lo (p9) (q14.trans e9) i9 (by rw [n9]; simp only [List.length_append, List.length_cons, List.length_nil, IDN.out, numL_len]; omega) (fun v9 w9 o9 g9 l9 => hK _ _ ?_)
   rw [n9] at o9
   exact hJ.app0 (by rw [hls]; decide) hun (by rw [hT]; rfl) (by rw [hT]; exact trivial) g9 l9 (RU.of o9)
  ·have q1 := hout 1 ob
   rw [gd9] at q1
   clear hsz hdep hout hlat
   go_simp
   exact hK _ _ (hJ.pn hls hT)
  ·have dd16 := hdep ⟨5, .data⟩ (by simp) rfl
   have q16 := dd16.2 _ rfl _ rfl
   have h16 := hJ.vals 5 dd16.1
   rw [hT] at h16
   rw [show f 5 = .pointer (some ⟨B, 6, none⟩) from h16] at q16
   clear h16 dd16
   rw [gd9] at q16
   have c6 := (RB.kt Q0.out hJ.ext).cells.2.2.1
   clear hsz hdep hout hlat
   go_simp
   exact hK _ _ (hJ.pn hls hT)
  ·have dd17 := hdep ⟨6, .data⟩ (by simp) rfl
   have q17 := dd17.2 _ rfl _ rfl
   have h17 := hJ.vals 6 dd17.1
   rw [hT] at h17
   rw [show f 6 = .int .i64 q.left from h17] at q17
   clear h17 dd17
   rw [gd9] at q17
   clear hsz hdep hout hlat
   go_simp
   exact hK _ _ (hJ.pn hls hT)
  ·have q1 := hout 1 ob
   rw [gd9] at q1
   clear hsz hdep hout hlat
   go_simp
   exact hK _ _ (hJ.pn hls hT)
  ·have dd19 := hdep ⟨8, .data⟩ (by simp) rfl
   have q19 := dd19.2 _ rfl _ rfl
   have h19 := hJ.vals 8 dd19.1
   rw [hT] at h19
   rw [show f 8 = .pointer (some ⟨B, 8, none⟩) from h19] at q19
   clear h19 dd19
   rw [gd9] at q19
   have c6 := (RB.kt Q0.out hJ.ext).cells.2.2.2.2.1
   clear hsz hdep hout hlat
   go_simp
   exact hK _ _ (hJ.pn hls hT)
  ·have dd20 := hdep ⟨9, .data⟩ (by simp) rfl
   have q20 := dd20.2 _ rfl _ rfl
   have h20 := hJ.vals 9 dd20.1
   rw [hT] at h20
   rw [show f 9 = .int .i64 q.client from h20] at q20
   clear h20 dd20
   rw [gd9] at q20
   clear hsz hdep hout hlat
   go_simp
   exact hK _ _ (hJ.pn hls hT)
  ·have dd18 := hdep ⟨7, .data⟩ (by simp) rfl
   have q18 := dd18.2 _ rfl _ rfl
   have h18 := hJ.vals 7 dd18.1
   rw [hT] at h18
   rw [show f 7 = .int .u8 (q.left % 256) from h18] at q18
   clear h18 dd18
   have dd21 := hdep ⟨10, .data⟩ (by simp) rfl
   have q21 := dd21.2 _ rfl _ rfl
   have h21 := hJ.vals 10 dd21.1
   rw [hT] at h21
   rw [show f 10 = .int .u8 (q.client % 256) from h21] at q21
   clear h21 dd21
   rw [gd9] at q18
   rw [gd9] at q21
   clear hsz hdep hout hlat
   go_simp
   exact hK _ _ (hJ.fresh (by rw [hls]; decide) (by rw [hT]; rfl) (Ex.alloc _ _) (by rw [hT]; exact trivial) (RU.of (lit_own _ _ ([Sm.by8 q.left, Sm.by8 q.client]) (by simp [Lib.byteCells, Sm.by8_int]) (by simp))))
  ·have dd15 := hdep ⟨4, .data⟩ (by simp) rfl
   have q15 := dd15.2 _ rfl _ rfl
   have h15 : ownU w2 B (f 4) ([Sm.by8 q.why] ++ q.id ++ Sm.numL q.gen) := RU.own (hJ.rows 4 _ dd15.1 (by rw [hT]; rfl) (fun c hc => by have hc : some 12 = some c := hc; cases hc; exact hun))
   have dd22 := hdep ⟨11, .data⟩ (by simp) rfl
   have q22 := dd22.2 _ rfl _ rfl
   have h22 : ownU w2 B (f 11) ([Sm.by8 q.left, Sm.by8 q.client]) := RU.own (hJ.rows 11 _ dd22.1 (by rw [hT]; rfl) (fun c hc => by have hc : none = some c := hc; cases hc))
   obtain ⟨p9, e9, n9, i9, _⟩ := own_pt h22
   refine wp_cat (.tmp 15) (.tmp 22) rfl B (f 4) ([Sm.by8 q.why] ++ q.id ++ Sm.numL q.gen) q15 h15 hJ.lo (p9) (q22.trans e9) i9 (by rw [n9]; simp only [List.length_append, List.length_cons, List.length_nil, IDN.out, numL_len]; omega) (fun v9 w9 o9 g9 l9 => hK _ _ ?_)
   rw [n9] at o9
   exact hJ.app (by rw [hls]; decide) hun dd15.1 rfl (by rw [hT]; rfl) (by rw [hT]; rfl) (by rw [hT]; exact trivial) g9 l9 (RU.of o9)
  have dd23 := hdep ⟨12, .data⟩ (by simp) rfl
  have q23 := dd23.2 _ rfl _ rfl
  have h23 : ownU w2 B (f 12) ([Sm.by8 q.why] ++ q.id ++ Sm.numL q.gen ++ [Sm.by8 q.left, Sm.by8 q.client]) := RU.own (hJ.rows 12 _ dd23.1 (by rw [hT]; rfl) (fun c hc => by have hc : some 13 = some c := hc; cases hc; exact hun))
  refine wp_asg9 _ rfl (hK _ _ ?_)
  rw [show a.eval (.tmp 23) = f 12 from q23]
  exact hJ.app (by rw [hls]; decide) hun dd23.1 rfl (by rw [hT]; rfl) (by rw [hT]; rfl) (by rw [hT]; exact trivial) (World.grownBy.refl _ _) (Or.inl rfl) (RU.of h23)
 intro listed f w2 hall hJ
 have o13 : ownU w2 B (f 13) ([Sm.by8 q.why] ++ q.id ++ Sm.numL q.gen ++ [Sm.by8 q.left, Sm.by8 q.client]) := RU.own (hJ.rows 13 _ (hall 13 (by simp)) (by rw [hT]; rfl) (fun c hc => by have hc : none = some c := hc; cases hc))
 have xk := hJ.ext
 have xl := hJ.lo
 simp only [putAll, Act.put, List.setIfInBounds_toArray, List.set_cons_zero, List.set_cons_succ, Nat.zero_add, Nat.reduceAdd]
 generalize f 13 = v2 at o13 ⊢
 clear hJ hall hT
 have O2 := Hi o13
 replace Q0 := Hi (RB.kt Q0.out xk)
 replace KT := Hi (KT.out.trans xk)
 clear xk hB0 o13 O1
 have hB1 := xl
 clear xl
 clear wr
 generalize w2 = wr at *
 obtain ⟨c0, c5, c6, c7, c8, c9⟩ := Q0.out.cells
 go_wp2_with ((with_reducible refine so0 ?_ ?_); (focus rfl))
 refine (rnum_row q.num N0.out N1.out wr).mono ?_
 rintro e wn ⟨vn, rfl, on, xn⟩
 obtain ⟨pn, rfl, ln, inn, _⟩ := own_pt on
 have LN := Hi ln
 have IN := Hi inn
 replace KT := Hi (KT.out.trans (Ex.kt xn hB1))
 replace Q0 := Hi (Q0.out.ext xn)
 replace O2 := Hi (ownU_ex xn O2.out)
 replace hB1 := Nat.le_trans hB1 (Below.size xn)
 clear xn on ln inn c0 c5 c6 c7 c8 c9
 go_wp2_with ((with_reducible refine so5 ?_ ?_); (focus rfl))
 (with_reducible refine ⟨?_⟩)
 (with_reducible refine at_any ?_ ?_); (focus go_simp); refine fun K0 hK => wp_cat (.tmp 24) (.tmp 27) rfl B v2 _ rfl O2.out hB1 pn rfl IN.out (by rw [LN.out]; simp only [List.length_append, List.length_cons, List.length_nil, IDN.out, numL_len]; omega) (fun v3 w3 r1 g1 l1 => hK _ _ ?_)
 clear hK
 rw [LN.out] at r1
 have O3 := Hi r1
 replace KT := Hi (KT.out.trans (Kt.grown O2.out g1 hB1))
 replace Q0 := Hi (RB.kt Q0.out (Kt.grown O2.out g1 hB1))
 replace hB1 : B ≤ w3.heap.size := Nat.le_trans hB1 g1.size
 clear r1 g1 l1 O2 IN LN
 go_wp2_with fail
 have hB0 := hB1
 clear hB1
 clear wr
 generalize w3 = wr at *
 obtain ⟨m, hm⟩ : ∃ m, m = q.sec.l.length := ⟨_, rfl⟩
 have hpv : q.sec.V = .slice q.sec.ad m q.sec.cap := by unfold Pt.V; rw [hm]
 have HPV := Hi hpv
 have HMM := Hi hm
 clear hm hpv
 obtain ⟨T, hT⟩ : ∃ T : List Bx, T = [.is (v3), .is (.pointer (some ⟨B, 7, none⟩)), .is (.slice q.sec.ad m q.sec.cap), .is (.int .i64 m), .is (.int .u8 ((m : Int) % 256)), .own ([Sm.by8 m]), .own ([Sm.by8 q.why] ++ q.id ++ Sm.numL q.gen ++ [Sm.by8 q.left, Sm.by8 q.client] ++ Sm.numL q.num ++ [Sm.by8 m]), .is (.pointer (some ⟨B, 7, none⟩)), .is (.slice q.sec.ad m q.sec.cap), .own ([Sm.by8 q.why] ++ q.id ++ Sm.numL q.gen ++ [Sm.by8 q.left, Sm.by8 q.client] ++ Sm.numL q.num ++ [Sm.by8 m] ++ q.sec.l), .own ([Sm.by8 q.why] ++ q.id ++ Sm.numL q.gen ++ [Sm.by8 q.left, Sm.by8 q.client] ++ Sm.numL q.num ++ [Sm.by8 m] ++ q.sec.l)] := ⟨_, rfl⟩
 refine wp_region_gen (JB B wr T ([none, none, none, none, none, none, some 9, none, none, some 10, none] : List (Option Nat)) (v3) ([Sm.by8 q.why] ++ q.id ++ Sm.numL q.gen ++ [Sm.by8 q.left, Sm.by8 q.client] ++ Sm.numL q.num) 6) (by kernel_rfl) (by kernel_rfl) (by kernel_rfl) (fitB_spec (by kernel_rfl)) (fun listed f h => JB.start hB0 (RU.of O3.out) listed f h) ?_ ?_
 ·intro i o ho
  have hi : i < 11 := (Array.getElem?_eq_some_iff.1 ho).1
  have hi' : i = 0 ∨ i = 1 ∨ i = 2 ∨ i = 3 ∨ i = 4 ∨ i = 5 ∨ i = 6 ∨ i = 7 ∨ i = 8 ∨ i = 9 ∨ i = 10 := by omega
  clear hi
  rcases hi' with rfl | rfl | rfl | rfl | rfl | rfl | rfl | rfl | rfl | rfl | rfl
  all_goals (simp only [List.getElem?_toArray, List.getElem?_cons_zero, List.getElem?_cons_succ, Option.some.injEq] at ho; subst ho; intro listed f a w2 hJ hsz hls hun hdep hout hlat; first | (rw [if_pos (by rfl)]; intro K hK) | skip)
  ·have q3 := hout 3 ob
   exact wp_mw _ rfl q3 (hK _ _ (hJ.pn hls hT))
  ·have q1 := hout 1 ob
   rw [gd9] at q1
   clear hsz hdep hout hlat
   go_simp
   exact hK _ _ (hJ.pn hls hT)
  ·have dd30 := hdep ⟨1, .data⟩ (by simp) rfl
   have q30 := dd30.2 _ rfl _ rfl
   have h30 := hJ.vals 1 dd30.1
   rw [hT] at h30
   rw [show f 1 = .pointer (some ⟨B, 7, none⟩) from h30] at q30
   clear h30 dd30
   rw [gd9] at q30
   have c6 := (RB.kt Q0.out hJ.ext).cells.2.2.2.1.trans (congrArg some HPV.out)
   clear hsz hdep hout hlat
   go_simp
   exact hK _ _ (hJ.pn hls hT)
  ·have dd31 := hdep ⟨2, .data⟩ (by simp) rfl
   have q31 := dd31.2 _ rfl _ rfl
   have h31 := hJ.vals 2 dd31.1
   rw [hT] at h31
   rw [show f 2 = .slice q.sec.ad m q.sec.cap from h31] at q31
   clear h31 dd31
   rw [gd9] at q31
   clear hsz hdep hout hlat
   go_simp
   exact hK _ _ (hJ.pn hls hT)
  ·have dd32 := hdep ⟨3, .data⟩ (by simp) rfl
   have q32 := dd32.2 _ rfl _ rfl
   have h32 := hJ.vals 3 dd32.1
   rw [hT] at h32
   rw [show f 3 = .int .i64 m from h32] at q32
   clear h32 dd32
   rw [gd9] at q32
   clear hsz hdep hout hlat
   go_simp
   exact hK _ _ (hJ.pn hls hT)
  ·have dd33 := hdep ⟨4, .data⟩ (by simp) rfl
   have q33 := dd33.2 _ rfl _ rfl
   have h33 := hJ.vals 4 dd33.1
   rw [hT] at h33
   rw [show f 4 = .int .u8 ((m : Int) % 256) from h33] at q33
   clear h33 dd33
   rw [gd9] at q33
   clear hsz hdep hout hlat
   go_simp
   exact hK _ _ (hJ.fresh (by rw [hls]; decide) (by rw [hT]; rfl) (Ex.alloc _ _) (by rw [hT]; exact trivial) (RU.of (lit_own _ _ ([Sm.by8 m]) (by simp [Lib.byteCells, Sm.by8_int]) (by simp))))
  ·have dd29 := hdep ⟨0, .data⟩ (by simp) rfl
   have q29 := dd29.2 _ rfl _ rfl
   have h29 := hJ.vals 0 dd29.1
   rw [hT] at h29
   rw [show f 0 = v3 from h29] at q29
   clear h29 dd29
   have dd34 := hdep ⟨5, .data⟩ (by simp) rfl
   have q34 := dd34.2 _ rfl _ rfl
   have h34 : ownU w2 B (f 5) ([Sm.by8 m]) := RU.own (hJ.rows 5 _ dd34.1 (by rw [hT]; rfl) (fun c hc => by have hc : none = some c := hc; cases hc))
   obtain ⟨p9, e9, n9, i9, _⟩ := own_pt h34
   have h29 := RU.own (hJ.row0 hun)
   refine wp_cat (.tmp 29) (.tmp 34) rfl B (v3) ([Sm.by8 q.why] ++ q.id ++ Sm.numL q.gen ++ [Sm.by8 q.left, Sm.by8 q.client] ++ Sm.numL q.num) q29 h29 hJ.lo (p9) (q34.trans e9) i9 (by rw [n9]; simp only [List.length_append, List.length_cons, List.length_nil, IDN.out, numL_len]; omega) (fun v9 w9 o9 g9 l9 => hK _ _ ?_)
   rw [n9] at o9
   exact hJ.app0 (by rw [hls]; decide) hun (by rw [hT]; rfl) (by rw [hT]; exact trivial) g9 l9 (RU.of o9)
  ·have q1 := hout 1 ob
   rw [gd9] at q1
   clear hsz hdep hout hlat
   go_simp
   exact hK _ _ (hJ.pn hls hT)
  ·have dd36 := hdep ⟨7, .data⟩ (by simp) rfl
   have q36 := dd36.2 _ rfl _ rfl
   have h36 := hJ.vals 7 dd36.1
   rw [hT] at h36
   rw [show f 7 = .pointer (some ⟨B, 7, none⟩) from h36] at q36
   clear h36 dd36
   rw [gd9] at q36
   have c6 := (RB.kt Q0.out hJ.ext).cells.2.2.2.1.trans (congrArg some HPV.out)
   clear hsz hdep hout hlat
   go_simp
   exact hK _ _ (hJ.pn hls hT)
  ·have dd35 := hdep ⟨6, .data⟩ (by simp) rfl
   have q35 := dd35.2 _ rfl _ rfl
   have h35 : ownU w2 B (f 6) ([Sm.by8 q.why] ++ q.id ++ Sm.numL q.gen ++ [Sm.by8 q.left, Sm.by8 q.client] ++ Sm.numL q.num ++ [Sm.by8 m]) := RU.own (hJ.rows 6 _ dd35.1 (by rw [hT]; rfl) (fun c hc => by have hc : some 9 = some c := hc; cases hc; exact hun))
   have dd37 := hdep ⟨8, .data⟩ (by simp) rfl
   have q37 := dd37.2 _ rfl _ rfl
   have h37 := hJ.vals 8 dd37.1
   rw [hT] at h37
   rw [show f 8 = .slice q.sec.ad m q.sec.cap from h37] at q37
   clear h37 dd37
   refine wp_cat (.tmp 35) (.tmp 37) rfl B (f 6) ([Sm.by8 q.why] ++ q.id ++ Sm.numL q.gen ++ [Sm.by8 q.left, Sm.by8 q.client] ++ Sm.numL q.num ++ [Sm.by8 m]) q35 h35 hJ.lo (q.sec) ((q37).trans HPV.out.symm) ((HS.out.keep (KT.out.trans hJ.ext).below).more hJ.lo) (by have := HM.out; simp only [List.length_append, List.length_cons, List.length_nil, IDN.out, numL_len]; omega) (fun v9 w9 o9 g9 l9 => hK _ _ ?_)
   exact hJ.app (by rw [hls]; decide) hun dd35.1 rfl (by rw [hT]; rfl) (by rw [hT]; rfl) (by rw [hT]; exact trivial) g9 l9 (RU.of o9)
  have dd38 := hdep ⟨9, .data⟩ (by simp) rfl
  have q38 := dd38.2 _ rfl _ rfl
  have h38 : ownU w2 B (f 9) ([Sm.by8 q.why] ++ q.id ++ Sm.numL q.gen ++ [Sm.by8 q.left, Sm.by8 q.client] ++ Sm.numL q.num ++ [Sm.by8 m] ++ q.sec.l) := RU.own (hJ.rows 9 _ dd38.1 (by rw [hT]; rfl) (fun c hc => by have hc : some 10 = some c := hc; cases hc; exact hun))
  refine wp_asg9 _ rfl (hK _ _ ?_)
  rw [show a.eval (.tmp 38) = f 9 from q38]
  exact hJ.app (by rw [hls]; decide) hun dd38.1 rfl (by rw [hT]; rfl) (by rw [hT]; rfl) (by rw [hT]; exact trivial) (World.grownBy.refl _ _) (Or.inl rfl) (RU.of h38)
 intro listed f w2 hall hJ
 have o10 : ownU w2 B (f 10) ([Sm.by8 q.why] ++ q.id ++ Sm.numL q.gen ++ [Sm.by8 q.left, Sm.by8 q.client] ++ Sm.numL q.num ++ [Sm.by8 m] ++ q.sec.l) := RU.own (hJ.rows 10 _ (hall 10 (by simp)) (by rw [hT]; rfl) (fun c hc => by have hc : none = some c := hc; cases hc))
 have xk := hJ.ext
 have xl := hJ.lo
 simp only [putAll, Act.put, List.setIfInBounds_toArray, List.set_cons_zero, List.set_cons_succ, Nat.zero_add, Nat.reduceAdd]
 generalize f 10 = v4 at o10 ⊢
 clear hJ hall hT
 have O4 := Hi o10
 replace KT := Hi (KT.out.trans xk)
 clear xk hB0 o10 O3 xl
 go_wp2_with fail
 go_ret
 exact ⟨v4, rfl, by have h := O4.out; rw [HMM.out, HBs.out] at h; simpa only [repB, Rt.ct, List.append_assoc, List.cons_append, List.nil_append] using h, by have h := KT.out.below; rw [HBs.out] at h; exact h⟩
end Go.Proofs.Ytopamplmpfndlaa.Cl
namespace Go.Proofs.Ytopamplmpfndlaa.Cl
open Go.RowKit
def r1 (L : List UInt8) : St := tks L (0, false) 1
def r2 (L : List UInt8) : St := tks L (r1 L) 4
def r3 (L : List UInt8) : St := tks L (r2 L) 8
def r4 (L : List UInt8) : St := tks L (r3 L) 1
def r5 (L : List UInt8) : St := tks L (r4 L) 1
def r6 (L : List UInt8) : St := tks L (r5 L) 8
def r7 (L : List UInt8) : St := tks L (r6 L) 1
def rn (L : List UInt8) : Nat := Sm.beV (tkv L (r6 L) 1)
def r8 (L : List UInt8) : St := tks L (r7 L) (rn L)
def repP (L : List UInt8) : Rc := ⟨Sm.beV (tkv L (0, false) 1), pad4 (tkv L (r1 L) 4), Sm.beV (tkv L (r2 L) 8), Sm.beV (tkv L (r3 L) 1), tkv L (r7 L) (rn L), Sm.beV (tkv L (r4 L) 1), Sm.beV (tkv L (r5 L) 8)⟩
theorem tk1_lt (L : List UInt8) (s : St) : Sm.beV (tkv L s 1) < 256 := by
 have h := Sm.beV_lt (tkv L s 1)
 have h2 : (256 : Nat) ^ (tkv L s 1).length ≤ 256 ^ 1 := Nat.pow_le_pow_right (by omega) (tkv_le _ _ _)
 omega
theorem tk8_lt (L : List UInt8) (s : St) : Sm.beV (tkv L s 8) < 18446744073709551616 := by
 have h := Sm.beV_lt (tkv L s 8)
 have h2 : (256 : Nat) ^ (tkv L s 8).length ≤ 256 ^ 8 := Nat.pow_le_pow_right (by omega) (tkv_le _ _ _)
 have h3 : (256 : Nat) ^ 8 = 18446744073709551616 := by decide
 omega
def zeroRt : Rt := ⟨0, z4, 0, 0, nilB, 0, 0⟩
theorem zeroRt_ok : zeroRt.Ok := ⟨by decide, by decide, rfl, by decide, by decide, by decide, by decide, by decide, by decide, by decide, by decide⟩
def ReplyPost (g : Nat) (p : Pt) (w : World) (e : Ending) (w' : World) : Prop := ∃ y : Rt, e = .returned y.V ∧ y.Ok ∧ y.ct = repP p.l ∧ PN w' w.heap.size y.sec ∧ RdI w' g p (r8 p.l) ∧ Md g w w'
theorem RdI.only {w w' : World} {g i : Nat} {p : Pt} {s : St} (h : RdI w g p s) (o : Only i w w') (hg : g < i) : RdI w' g p s := ⟨o.bk h.blk (by omega), h.le, h.src.keep (o.below g (by omega) _ (Below.refl _ _)), h.big⟩
theorem reply_any (g : Nat) (p : Pt) (w : World) (h : RdI w g p (0, false)) : Calls Try.prog 108 #[.pointer (some ⟨g, 0, none⟩)] w (ReplyPost g p w) := by
 have Y : Hid (RB (w.alloc (.cells zeroRt.C.toArray 29)) w.heap.size zeroRt) := Hi ⟨zeroRt_ok, Bk.new rfl _ _⟩
 have H : Hid (RdI (w.alloc (.cells zeroRt.C.toArray 29)) g p (0, false)) := Hi (h.ext (Ex.alloc _ _))
 have M : Hid (Md g w (w.alloc (.cells zeroRt.C.toArray 29))) := Hi ((Ex.alloc w _).md (Nat.le_of_lt h.blk.lt))
 obtain ⟨i, hi⟩ : ∃ i, i = w.heap.size := ⟨_, rfl⟩
 have HI := Hi hi
 have hgi : g < i := by have := h.blk.lt; omega
 clear h
 go_enter Try.func108, Try.ntmps108
 go_wp2_with ((with_reducible refine so3 [1000 + 24, 1000 + 27, 1000 + 3, 1000 + 23] ?_ ?_); (focus rfl))
 change Calls _ _ _ (w.alloc (.cells zeroRt.C.toArray 29)) _
 generalize hw1 : (w.alloc (.cells zeroRt.C.toArray 29)) = wz at *
 clear hw1
 rw [← hi] at Y ⊢
 clear hi
 refine (small_any g p (0, false) _ H.out).mono ?_
 rintro e w1 ⟨rfl, h1, m1⟩
 replace M := Hi (M.out.trans m1)
 replace Y := Hi (m1.rb Y.out (by omega))
 replace H := Hi (show RdI w1 g p (r1 p.l) from h1)
 clear m1 h1
 go_wp2_with ((with_reducible refine so3 [1000 + 24, 1000 + 27, 1000 + 3, 1000 + 23] ?_ ?_); (focus rfl))
 refine at9 (by go_simp) fun K0 hK => st_rwhy (by kernel_rfl) _ _ i _ (Sm.beV (tkv p.l (0, false) 1)) rfl rfl rfl (by omega) (by have := tk1_lt p.l (0, false); omega) Y.out (fun w9 hd ho => hK _ _ ?_)
 clear hK
 replace H := Hi (H.out.only ho hgi)
 replace M := Hi (Md.only9 M.out ho hgi (by have := HI.out; omega))
 replace Y := Hi hd
 clear hd ho
 go_wp2_with ((with_reducible refine so3 [1000 + 24, 1000 + 27, 1000 + 3, 1000 + 23] ?_ ?_); (focus rfl))
 refine (id_any g p (r1 p.l) _ H.out).mono ?_
 rintro e w1 ⟨rfl, h1, m1⟩
 replace M := Hi (M.out.trans m1)
 replace Y := Hi (m1.rb Y.out (by omega))
 replace H := Hi (show RdI w1 g p (r2 p.l) from h1)
 clear m1 h1
 go_wp2_with ((with_reducible refine so3 [1000 + 24, 1000 + 27, 1000 + 3, 1000 + 23] ?_ ?_); (focus rfl))
 refine at9 (by go_simp) fun K0 hK => st_rid _ _ i _ (pad4 (tkv p.l (r1 p.l) 4)) rfl rfl rfl (pad4_len _ _) Y.out (fun w9 hd ho => hK _ _ ?_)
 clear hK
 replace H := Hi (H.out.only ho hgi)
 replace M := Hi (Md.only9 M.out ho hgi (by have := HI.out; omega))
 replace Y := Hi hd
 clear hd ho
 go_wp2_with ((with_reducible refine so3 [1000 + 24, 1000 + 27, 1000 + 3, 1000 + 23] ?_ ?_); (focus rfl))
 refine (number_any g p (r2 p.l) _ H.out).mono ?_
 rintro e w1 ⟨rfl, h1, m1⟩
 replace M := Hi (M.out.trans m1)
 replace Y := Hi (m1.rb Y.out (by omega))
 replace H := Hi (show RdI w1 g p (r3 p.l) from h1)
 clear m1 h1
 go_wp2_with ((with_reducible refine so3 [1000 + 24, 1000 + 27, 1000 + 3, 1000 + 23] ?_ ?_); (focus rfl))
 refine at9 (by go_simp) fun K0 hK => st_rgen (by kernel_rfl) _ _ i _ (Sm.beV (tkv p.l (r2 p.l) 8)) rfl rfl rfl (by omega) (by have := tk8_lt p.l (r2 p.l); omega) Y.out (fun w9 hd ho => hK _ _ ?_)
 clear hK
 replace H := Hi (H.out.only ho hgi)
 replace M := Hi (Md.only9 M.out ho hgi (by have := HI.out; omega))
 replace Y := Hi hd
 clear hd ho
 go_wp2_with ((with_reducible refine so3 [1000 + 24, 1000 + 27, 1000 + 3, 1000 + 23] ?_ ?_); (focus rfl))
 refine (small_any g p (r3 p.l) _ H.out).mono ?_
 rintro e w1 ⟨rfl, h1, m1⟩
 replace M := Hi (M.out.trans m1)
 replace Y := Hi (m1.rb Y.out (by omega))
 replace H := Hi (show RdI w1 g p (r4 p.l) from h1)
 clear m1 h1
 go_wp2_with ((with_reducible refine so3 [1000 + 24, 1000 + 27, 1000 + 3, 1000 + 23] ?_ ?_); (focus rfl))
 refine at9 (by go_simp) fun K0 hK => st_rleft (by kernel_rfl) _ _ i _ (Sm.beV (tkv p.l (r3 p.l) 1)) rfl rfl rfl (by omega) (by have := tk1_lt p.l (r3 p.l); omega) Y.out (fun w9 hd ho => hK _ _ ?_)
 clear hK
 replace H := Hi (H.out.only ho hgi)
 replace M := Hi (Md.only9 M.out ho hgi (by have := HI.out; omega))
 replace Y := Hi hd
 clear hd ho
 go_wp2_with ((with_reducible refine so3 [1000 + 24, 1000 + 27, 1000 + 3, 1000 + 23] ?_ ?_); (focus rfl))
 refine (small_any g p (r4 p.l) _ H.out).mono ?_
 rintro e w1 ⟨rfl, h1, m1⟩
 replace M := Hi (M.out.trans m1)
 replace Y := Hi (m1.rb Y.out (by omega))
 replace H := Hi (show RdI w1 g p (r5 p.l) from h1)
 clear m1 h1
 go_wp2_with ((with_reducible refine so3 [1000 + 24, 1000 + 27, 1000 + 3, 1000 + 23] ?_ ?_); (focus rfl))
 refine at9 (by go_simp) fun K0 hK => st_rclient (by kernel_rfl) _ _ i _ (Sm.beV (tkv p.l (r4 p.l) 1)) rfl rfl rfl (by omega) (by have := tk1_lt p.l (r4 p.l); omega) Y.out (fun w9 hd ho => hK _ _ ?_)
 clear hK
 replace H := Hi (H.out.only ho hgi)
 replace M := Hi (Md.only9 M.out ho hgi (by have := HI.out; omega))
 replace Y := Hi hd
 clear hd ho
 go_wp2_with ((with_reducible refine so3 [1000 + 24, 1000 + 27, 1000 + 3, 1000 + 23] ?_ ?_); (focus rfl))
 refine (number_any g p (r5 p.l) _ H.out).mono ?_
 rintro e w1 ⟨rfl, h1, m1⟩
 replace M := Hi (M.out.trans m1)
 replace Y := Hi (m1.rb Y.out (by omega))
 replace H := Hi (show RdI w1 g p (r6 p.l) from h1)
 clear m1 h1
 go_wp2_with ((with_reducible refine so3 [1000 + 24, 1000 + 27, 1000 + 3, 1000 + 23] ?_ ?_); (focus rfl))
 refine at9 (by go_simp) fun K0 hK => st_rnum (by kernel_rfl) _ _ i _ (Sm.beV (tkv p.l (r5 p.l) 8)) rfl rfl rfl (by omega) (by have := tk8_lt p.l (r5 p.l); omega) Y.out (fun w9 hd ho => hK _ _ ?_)
 clear hK
 replace H := Hi (H.out.only ho hgi)
 replace M := Hi (Md.only9 M.out ho hgi (by have := HI.out; omega))
 replace Y := Hi hd
 clear hd ho
 go_wp2_with ((with_reducible refine so3 [1000 + 24, 1000 + 27, 1000 + 3, 1000 + 23] ?_ ?_); (focus rfl))
 have SZ := Hi Y.out.lt
 have SW := Hi M.out.size
 refine (secret_any g p (r6 p.l) _ H.out).mono ?_
 rintro e w1 ⟨q, rfl, ql, qn, h1, m1⟩
 replace M := Hi (M.out.trans m1)
 replace Y := Hi (m1.rb Y.out (by omega))
 replace H := Hi (show RdI w1 g p (r8 p.l) from h1)
 have QL := Hi ql
 have QN := Hi qn
 clear m1 h1 ql qn
 go_wp2_with ((with_reducible refine so3 [1000 + 24, 1000 + 27, 1000 + 3, 1000 + 23] ?_ ?_); (focus rfl))
 refine at9 (by go_simp) fun K0 hK => st_rsec (by kernel_rfl) _ _ i _ q rfl rfl rfl Y.out (fun w9 hd ho => hK _ _ ?_)
 clear hK
 replace H := Hi (H.out.only ho hgi)
 replace M := Hi (Md.only9 M.out ho hgi (by have := HI.out; omega))
 replace QN := Hi ((QN.out.only ho SZ.out).less SW.out)
 replace Y := Hi hd
 clear hd ho
 go_wp2_with ((with_reducible refine so3 [1000 + 24, 1000 + 27, 1000 + 3, 1000 + 23] ?_ ?_); (focus rfl))
 obtain ⟨y, hy⟩ : ∃ y : Rt, y = ⟨Sm.beV (tkv p.l (0, false) 1), pad4 (tkv p.l (r1 p.l) 4), Sm.beV (tkv p.l (r2 p.l) 8), Sm.beV (tkv p.l (r3 p.l) 1), q, Sm.beV (tkv p.l (r4 p.l) 1), Sm.beV (tkv p.l (r5 p.l) 8)⟩ := ⟨_, rfl⟩
 have HY := Hi hy
 replace Y := Hi (show RB w9 i y by rw [hy]; exact Y.out)
 clear hy
 refine at9 (by go_simp) fun K0 hK => ld_r _ i y rfl rfl Y.out (hK _ _ ?_)
 clear hK
 go_wp2_with ((with_reducible refine so3 [1000 + 24, 1000 + 27, 1000 + 3, 1000 + 23] ?_ ?_); (focus rfl))
 refine at9 (by go_simp) fun K0 hK => st_r _ _ i y rfl rfl rfl Y.out.1 Y.out.2 (by rw [List.size_toArray, Rt.len Y.out.1]) (fun w8 hd ho => hK _ _ ?_)
 clear hK
 replace H := Hi (H.out.only ho hgi)
 replace M := Hi (Md.only9 M.out ho hgi (by have := HI.out; omega))
 replace QN := Hi (QN.out.onlyT ho Y.out.2 (by decide))
 replace Y := Hi hd
 clear hd ho
 go_wp2_with fail
 exact bodyPost_ret (res_r rfl _ _ i rfl y Y.out) rfl ⟨y, rfl, Y.out.1, by rw [HY.out]; unfold repP Rt.ct; simp only [QL.out]; rfl, by rw [HY.out]; exact QN.out, H.out, M.out⟩
end Go.Proofs.Ytopamplmpfndlaa.Cl
