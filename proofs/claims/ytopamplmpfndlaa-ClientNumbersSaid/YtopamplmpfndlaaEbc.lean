/- Cl -/
import Derived.Test.YtopamplmpfndlaaEbb
import Derived.Test.YtopamplmpfndlaaEbb
set_option maxRecDepth 100000
set_option maxHeartbeats 16000000
namespace Go.Proofs.Ytopamplmpfndlaa.Cl
open Go.RowKit
def labL : List UInt8 := [99, 108, 105, 101, 110, 116]
def keyL (n : Int) (num : Int) (k : List UInt8) : List UInt8 := Sm.sumL (k ++ (labL ++ [Sm.by8 n] ++ Sm.numL num))
theorem keyL_len (n num : Int) (k : List UInt8) : (keyL n num k).length = 16 := Sm.sumL_len _
def toSm (p : Pt) : Sm.Pt := ⟨p.ad, p.cap, p.l⟩
theorem in_sm {p : Pt} {w : World} {B : Nat} (h : p.In w B) : (toSm p).In w B := ⟨h.cap, h.nil, h.read⟩
def ofSm (p : Sm.Pt) : Pt := ⟨p.ad, p.cap, p.l⟩
theorem ofSm_in {p : Sm.Pt} {w : World} {B : Nat} (h : p.In w B) : (ofSm p).In w B := ⟨h.cap, h.nil, h.read⟩
theorem key9_any (kl : List UInt8) (hk : kl.length = 16) (p : Pt) (w : World) (hp : p.In w w.heap.size) (hm : p.l.length ≤ 90000000000000) :
  Calls Try.prog 71 #[digV kl, p.V] w fun e w' => e = .returned (digV (Sm.sumL (kl ++ p.l))) ∧ Ex w w' := Sm.keyed_any kl hk (toSm p) w (in_sm hp) hm
theorem rkey9_any (kl : List UInt8) (hk : kl.length = 16) (p : Pt) (w : World) (hp : p.In w w.heap.size) (hm : p.l.length ≤ 90000000000000) :
  Calls Try.prog 73 #[digV kl, p.V] w fun e w' => e = .returned (digV (Sm.sumL (kl ++ p.l))) ∧ Ex w w' := Sm.rkeyed_any kl hk (toSm p) w (in_sm hp) hm
theorem conc3_any (p q r : Pt) (g : Nat) (w : World) (hp : p.In w w.heap.size) (hq : q.In w w.heap.size) (hr : r.In w w.heap.size) (hb : Bk w g 23 #[p.V, q.V, r.V]) (hN : p.l.length + q.l.length + r.l.length ≤ 1000000) :
  Calls Try.prog 76 #[.slice (some ⟨g, 0, none⟩) 3 3] w (RowPost (p.l ++ q.l ++ r.l) w) := by
 have h := Sm.concat_any [toSm p, toSm q, toSm r] g 3 w hb.lt (by
  intro i y hy
  match i, hy with
  | 0, hy =>
   obtain rfl : toSm p = y := by simpa using hy
   exact ⟨by rw [hb.cell]; rfl, in_sm hp⟩
  | 1, hy =>
   obtain rfl : toSm q = y := by simpa using hy
   exact ⟨by rw [hb.cell]; rfl, in_sm hq⟩
  | 2, hy =>
   obtain rfl : toSm r = y := by simpa using hy
   exact ⟨by rw [hb.cell]; rfl, in_sm hr⟩
  | i + 3, hy => simp at hy) (by simp [Sm.flatL, toSm]; omega) (by simp)
 have e : Sm.flatL [toSm p, toSm q, toSm r] 3 = p.l ++ q.l ++ r.l := by simp [Sm.flatL, toSm]
 refine Calls.mono h fun e' w' h' => ?_
 obtain ⟨v, hv, ho, hx⟩ := h'
 subst hv
 exact ⟨v, rfl, by rw [← e]; exact ho, hx⟩
theorem wp_grow9 {o : Oper} {a : Act} {w : World} {K : Act → World → Prop} {Q : Exit → Act → World → Prop} (s x : Operand) (hop : o.op = .call { callee := .builtin .append, args := #[s, x], argTypes := #[23, 23] }) (g : Nat) (l : List UInt8) {n : Nat} (hn : l.length = n) (hb : w.heap[g]? = some (.cells (Lib.byteCells l).toArray 5 (n, n + 1)))
  (hs : a.eval s = .slice (some ⟨g, 0, none⟩) n n) (p : Pt) (hx : a.eval x = p.V) (hp : p.In w w.heap.size) (h0 : 0 < p.l.length) (hN : l.length + p.l.length ≤ 1000000)
  (h : ∀ v' w', ownU w' w.heap.size v' (l ++ p.l) → Ex w w' → K (a.put o.dst v') w') : o.wp Try.prog a w K Q := by
 subst hn
 obtain ⟨i0, hi0, hz0, hz1, hz2⟩ := info_parts sm_u8
 obtain ⟨A, e, hc⟩ := hp.cells h0
 have h1 : ∀ u ∈ Lib.byteCells p.l, u.oneCell' = true := fun u hu => byteCells_one hu
 obtain ⟨v', w', hrun, r1, r2⟩ := run_append_arg_grows (P := Try.prog) w 23 o.type 5 i0 _ 1 1 Try.underlying23 hi0 hz0 hz1 hz2 rfl (by omega) ⟨g, 0, none⟩ l.length l.length (Lib.byteCells l) (by rw [byteCells_len]; omega) (fun j u hu => by
  rw [Addr.add_lit, Nat.zero_add]
  simp only [World.cell?, hb]
  simpa using hu) A p.l.length p.cap (Lib.byteCells p.l) (by rw [byteCells_len]; omega) hc (by omega) (by unfold maxLen; omega) (by omega)
 unfold Oper.wp
 have hx2 : a.eval x = .slice (some A) p.l.length p.cap := by rw [hx]; unfold Pt.V; rw [e]
 simp [execOp, hop, resolve, invoke, builtin, hs, hx2, hrun, Result.andThen]
 refine h v' w' ?_ ((Below.refl _ _).grown r2 (Nat.le_refl _) (fun k hk => by cases hk))
 unfold ownU
 rw [byteCells_app, List.length_append]
 exact r1
theorem rkeyof_any (n m : Int) (m0 : 0 ≤ m) (m1 : m < 18446744073709551616) (kl : List UInt8) (hk : kl.length = 16) (w : World) : Calls Try.prog 51 #[.int .i64 n, .int .u64 m, digV kl] w fun e w' => e = .returned (digV (keyL n m kl)) ∧ Ex w w' := by
 obtain ⟨ds, hds⟩ : ∃ ds, ds = (Lib.byteCells kl).toArray := ⟨_, rfl⟩
 have D0 : Hid (Bk ((w.alloc (.cells ds 36)).alloc (.cells #[.int .u8 0, .int .u8 0, .int .u8 0, .int .u8 0, .int .u8 0, .int .u8 0, .int .u8 0, .int .u8 0, .int .u8 0, .int .u8 0, .int .u8 0, .int .u8 0, .int .u8 0, .int .u8 0, .int .u8 0, .int .u8 0] 36)) w.heap.size 36 (Lib.byteCells kl).toArray) := Hi (by rw [← hds]; exact (Bk.new rfl _ _).more _)
 have R0 : Hid (Bk ((w.alloc (.cells ds 36)).alloc (.cells #[.int .u8 0, .int .u8 0, .int .u8 0, .int .u8 0, .int .u8 0, .int .u8 0, .int .u8 0, .int .u8 0, .int .u8 0, .int .u8 0, .int .u8 0, .int .u8 0, .int .u8 0, .int .u8 0, .int .u8 0, .int .u8 0] 36)) (w.heap.size + 1) 36 (Lib.byteCells z16).toArray) := Hi (Bk.new (by simp) _ _)
 have X0 : Hid (Ex w ((w.alloc (.cells ds 36)).alloc (.cells #[.int .u8 0, .int .u8 0, .int .u8 0, .int .u8 0, .int .u8 0, .int .u8 0, .int .u8 0, .int .u8 0, .int .u8 0, .int .u8 0, .int .u8 0, .int .u8 0, .int .u8 0, .int .u8 0, .int .u8 0, .int .u8 0] 36))) := Hi (Ex.trans (Ex.alloc _ _) (Ex.alloc _ _))
 have HK := Hi hk
 rw [show (Calls Try.prog 51 #[.int .i64 n, .int .u64 m, digV kl] w) = (Calls Try.prog 51 #[.int .i64 n, .int .u64 m, .agg ds] w) by rw [hds]; rfl]
 obtain ⟨K9, hK9⟩ : ∃ L, L = keyL n m kl := ⟨_, rfl⟩
 have HKL := Hi hK9
 have HKN : Hid (K9.length = 16) := Hi (by rw [hK9]; exact keyL_len _ _ _)
 rw [← hK9]
 clear hds hk hK9
 go_enter Try.func51, Try.ntmps51
 go_wp2_with fail
 generalize ((w.alloc (.cells ds 36)).alloc (.cells #[.int .u8 0, .int .u8 0, .int .u8 0, .int .u8 0, .int .u8 0, .int .u8 0, .int .u8 0, .int .u8 0, .int .u8 0, .int .u8 0, .int .u8 0, .int .u8 0, .int .u8 0, .int .u8 0, .int .u8 0, .int .u8 0] 36)) = wr at *
 obtain ⟨g, hg⟩ : ∃ i, i = w.heap.size := ⟨_, rfl⟩
 rw [← hg] at D0 R0 ⊢
 have HG := Hi hg
 clear hg
 have hB0 : g ≤ wr.heap.size := Nat.le_of_lt D0.out.lt
 obtain ⟨T, hT⟩ : ∃ T : List Bx, T = [.is (digV kl), .lit (labL), .frz (labL), .is (.int .i64 n), .is (.int .u8 (n % 256)), .own ([Sm.by8 n]), .own (labL ++ [Sm.by8 n]), .is (.int .u64 m), .own (Sm.numL m), .own (labL ++ [Sm.by8 n] ++ Sm.numL m), .is (digV K9), .any] := ⟨_, rfl⟩
 refine wp_region_gen (JF 11 (JB g wr T ([none, some 2, none, none, none, none, some 9, none, none, none, none, none] : List (Option Nat)) (.slice none 0 0) ([]) 12) (fun W => Bk W (g + 1) 36 (Lib.byteCells K9).toArray ∧ Ex w W)) (by kernel_rfl) (by kernel_rfl) (by kernel_rfl) (fitB_spec (by kernel_rfl)) (fun listed f h => JF.start h (JB.start hB0 (RU.of (ownU_nil _ _)) listed f h)) ?_ ?_
 ·intro i o ho
  have hi : i < 12 := (Array.getElem?_eq_some_iff.1 ho).1
  have hi' : i = 0 ∨ i = 1 ∨ i = 2 ∨ i = 3 ∨ i = 4 ∨ i = 5 ∨ i = 6 ∨ i = 7 ∨ i = 8 ∨ i = 9 ∨ i = 10 ∨ i = 11 := by omega
  clear hi
  rcases hi' with rfl | rfl | rfl | rfl | rfl | rfl | rfl | rfl | rfl | rfl | rfl | rfl
  all_goals (simp only [List.getElem?_toArray, List.getElem?_cons_zero, List.getElem?_cons_succ, Option.some.injEq] at ho; subst ho; intro listed f a w2 hJ hsz hls hun hdep hout hlat)
  ·obtain ⟨hcl, hJ⟩ := JF.get hJ (show 0 < 11 by decide) hun
   rw [if_pos (by rfl)]
   intro K hK
   have hK := fun v w' h => hK v w' (JF.step (by decide) hcl h)
   have q5 := hout 5 ob
   exact ld_dgb (.tmp 5) g kl rfl q5 HK.out (hJ.ext.bk D0.out (by decide)) (hK _ _ (hJ.pn hls hT))
  ·obtain ⟨hcl, hJ⟩ := JF.get hJ (show 1 < 11 by decide) hun
   rw [if_pos (by rfl)]
   intro K hK
   have hK := fun v w' h => hK v w' (JF.step (by decide) hcl h)
   clear hsz hdep hout hlat
   go_simp
   exact hK _ _ (hJ.fresh (by rw [hls]; decide) (by rw [hT]; rfl) (Ex.alloc _ _) (by rw [hT]; exact ⟨_, rfl⟩) (RU.of (lit_own _ _ (labL) (by rfl) (by decide))))
  ·obtain ⟨hcl, hJ⟩ := JF.get hJ (show 2 < 11 by decide) hun
   rw [if_pos (by rfl)]
   intro K hK
   have hK := fun v w' h => hK v w' (JF.step (by decide) hcl h)
   have dd8 := hdep ⟨1, .data⟩ (by simp) rfl
   have q8 := dd8.2 _ rfl _ rfl
   have p8 : ∃ g, f 1 = .slice (some ⟨g, 0, none⟩) (labL).length (labL).length := by
    have h9 := hJ.vals 1 dd8.1
    rw [hT] at h9; exact h9
   have h8 : ownU w2 g (f 1) (labL) := RU.own (hJ.rows 1 _ dd8.1 (by rw [hT]; rfl) (fun c hc => by have hc : some 2 = some c := hc; cases hc; exact hun))
   obtain ⟨g9, e9⟩ := p8
   have h9 := h8
   rw [e9] at h9
   refine wp_frz (.tmp 8) rfl g9 (labL) (q8.trans e9) (lit_back h9) (fun w9 b9 k9 => hK _ _ ?_)
   exact hJ.app (by rw [hls]; decide) hun dd8.1 rfl (by rw [hT]; rfl) (by rw [hT]; rfl) (by rw [hT]; exact trivial) (by rw [e9]; exact k9) (Or.inl (by rw [e9])) (show RU w9 g _ (true, labL) from (⟨g9, rfl, (World.ownsRow.lt h9 g9 rfl).1, b9⟩ : Fz w9 g _ (labL)))
  ·obtain ⟨hcl, hJ⟩ := JF.get hJ (show 3 < 11 by decide) hun
   rw [if_pos (by rfl)]
   intro K hK
   have hK := fun v w' h => hK v w' (JF.step (by decide) hcl h)
   have q0 := hout 0 ob
   exact wp_mw _ rfl q0 (hK _ _ (hJ.pn hls hT))
  ·obtain ⟨hcl, hJ⟩ := JF.get hJ (show 4 < 11 by decide) hun
   rw [if_pos (by rfl)]
   intro K hK
   have hK := fun v w' h => hK v w' (JF.step (by decide) hcl h)
   have dd10 := hdep ⟨3, .data⟩ (by simp) rfl
   have q10 := dd10.2 _ rfl _ rfl
   have h10 := hJ.vals 3 dd10.1
   rw [hT] at h10
   rw [show f 3 = .int .i64 n from h10] at q10
   clear h10 dd10
   rw [gd9] at q10
   clear hsz hdep hout hlat
   go_simp
   exact hK _ _ (hJ.pn hls hT)
  ·obtain ⟨hcl, hJ⟩ := JF.get hJ (show 5 < 11 by decide) hun
   rw [if_pos (by rfl)]
   intro K hK
   have hK := fun v w' h => hK v w' (JF.step (by decide) hcl h)
   have dd11 := hdep ⟨4, .data⟩ (by simp) rfl
   have q11 := dd11.2 _ rfl _ rfl
   have h11 := hJ.vals 4 dd11.1
   rw [hT] at h11
   rw [show f 4 = .int .u8 (n % 256) from h11] at q11
   clear h11 dd11
   rw [gd9] at q11
   clear hsz hdep hout hlat
   go_simp
   exact hK _ _ (hJ.fresh (by rw [hls]; decide) (by rw [hT]; rfl) (Ex.alloc _ _) (by rw [hT]; exact trivial) (RU.of (lit_own _ _ ([Sm.by8 n]) (by simp [Lib.byteCells, Sm.by8_int]) (by simp))))
  ·obtain ⟨hcl, hJ⟩ := JF.get hJ (show 6 < 11 by decide) hun
   rw [if_pos (by rfl)]
   intro K hK
   have hK := fun v w' h => hK v w' (JF.step (by decide) hcl h)
   have dd9 := hdep ⟨2, .data⟩ (by simp) rfl
   have q9 := dd9.2 _ rfl _ rfl
   have h9 : Fz w2 g (f 2) (labL) := RU.fz (hJ.rows 2 _ dd9.1 (by rw [hT]; rfl) (fun c hc => by have hc : none = some c := hc; cases hc))
   have dd12 := hdep ⟨5, .data⟩ (by simp) rfl
   have q12 := dd12.2 _ rfl _ rfl
   have h12 : ownU w2 g (f 5) ([Sm.by8 n]) := RU.own (hJ.rows 5 _ dd12.1 (by rw [hT]; rfl) (fun c hc => by have hc : none = some c := hc; cases hc))
   obtain ⟨p9, e9, n9, i9, _⟩ := own_pt h12
   obtain ⟨g9, e8, _, b8⟩ := h9
   refine wp_grow9 (.tmp 9) (.tmp 12) rfl g9 labL rfl b8 (q9.trans e8) p9 (q12.trans e9) i9 (by rw [n9]; simp) (by rw [n9]; simp [labL]) (fun v7 w7 o7 x7 => hK _ _ ?_)
   rw [n9] at o7
   exact hJ.fresh (by rw [hls]; decide) (by rw [hT]; rfl) x7 (by rw [hT]; exact trivial) (RU.of o7)
  ·obtain ⟨hcl, hJ⟩ := JF.get hJ (show 7 < 11 by decide) hun
   rw [if_pos (by rfl)]
   intro K hK
   have hK := fun v w' h => hK v w' (JF.step (by decide) hcl h)
   have q1 := hout 1 ob
   exact wp_mw _ rfl q1 (hK _ _ (hJ.pn hls hT))
  ·obtain ⟨hcl, hJ⟩ := JF.get hJ (show 8 < 11 by decide) hun
   rw [if_pos (by rfl)]
   intro K hK
   have hK := fun v w' h => hK v w' (JF.step (by decide) hcl h)
   have dd14 := hdep ⟨7, .data⟩ (by simp) rfl
   have q14 := dd14.2 _ rfl _ rfl
   have h14 := hJ.vals 7 dd14.1
   rw [hT] at h14
   rw [show f 7 = .int .u64 m from h14] at q14
   clear h14 dd14
   rw [gd9] at q14
   clear hsz hdep hout hlat
   go_simp
   refine (rnum_row m m0 m1 w2).mono ?_
   rintro e w3 ⟨v, rfl, on, xn⟩
   exact hK _ _ (hJ.fresh (by rw [hls]; decide) (by rw [hT]; rfl) xn (by rw [hT]; exact trivial) (RU.of on))
  ·obtain ⟨hcl, hJ⟩ := JF.get hJ (show 9 < 11 by decide) hun
   rw [if_pos (by rfl)]
   intro K hK
   have hK := fun v w' h => hK v w' (JF.step (by decide) hcl h)
   have dd13 := hdep ⟨6, .data⟩ (by simp) rfl
   have q13 := dd13.2 _ rfl _ rfl
   have h13 : ownU w2 g (f 6) (labL ++ [Sm.by8 n]) := RU.own (hJ.rows 6 _ dd13.1 (by rw [hT]; rfl) (fun c hc => by have hc : some 9 = some c := hc; cases hc; exact hun))
   have dd15 := hdep ⟨8, .data⟩ (by simp) rfl
   have q15 := dd15.2 _ rfl _ rfl
   have h15 : ownU w2 g (f 8) (Sm.numL m) := RU.own (hJ.rows 8 _ dd15.1 (by rw [hT]; rfl) (fun c hc => by have hc : none = some c := hc; cases hc))
   obtain ⟨p9, e9, n9, i9, _⟩ := own_pt h15
   refine wp_cat (.tmp 13) (.tmp 15) rfl g (f 6) (labL ++ [Sm.by8 n]) q13 h13 hJ.lo (p9) (q15.trans e9) i9 (by rw [n9]; simp [labL, numL_len]) (fun v9 w9 o9 g9 l9 => hK _ _ ?_)
   rw [n9] at o9
   exact hJ.app (by rw [hls]; decide) hun dd13.1 rfl (by rw [hT]; rfl) (by rw [hT]; rfl) (by rw [hT]; exact trivial) g9 l9 (RU.of o9)
  ·obtain ⟨hcl, hJ⟩ := JF.get hJ (show 10 < 11 by decide) hun
   rw [if_pos (by rfl)]
   intro K hK
   have hK := fun v w' h => hK v w' (JF.step (by decide) hcl h)
   have dd7 := hdep ⟨0, .data⟩ (by simp) rfl
   have q7 := dd7.2 _ rfl _ rfl
   have h7 := hJ.vals 0 dd7.1
   rw [hT] at h7
   rw [show f 0 = digV kl from h7] at q7
   clear h7 dd7
   have dd16 := hdep ⟨9, .data⟩ (by simp) rfl
   have q16 := dd16.2 _ rfl _ rfl
   have h16 : ownU w2 g (f 9) (labL ++ [Sm.by8 n] ++ Sm.numL m) := RU.own (hJ.rows 9 _ dd16.1 (by rw [hT]; rfl) (fun c hc => by have hc : none = some c := hc; cases hc))
   obtain ⟨p9, e9, n9, i9, _⟩ := own_pt h16
   rw [e9] at q16
   rw [gd9] at q7
   rw [gd9] at q16
   clear hsz hdep hout hlat
   go_simp
   refine (rkey9_any kl HK.out p9 w2 i9 (by rw [n9]; simp [labL, numL_len])).mono ?_
   rintro e w3 ⟨rfl, x3⟩
   exact hK _ _ (hJ.plain (by rw [hls]; decide) (by rw [hT]; rfl) x3 (by rw [hT, n9, HKL.out]; rfl))
  replace hJ := hJ.1 hun
  rw [if_pos (by rfl)]
  intro K hK
  have q6 := hout 6 ob
  have dd17 := hdep ⟨10, .data⟩ (by simp) rfl
  have q17 := dd17.2 _ rfl _ rfl
  have h17 := hJ.vals 10 dd17.1
  rw [hT] at h17
  rw [show f 10 = digV K9 from h17] at q17
  clear h17 dd17
  have hJB := hJ
  have hall : ∀ i, i < 11 → listed.getD i false = true := fun i hi => by
   have hi' : i = 0 ∨ i = 1 ∨ i = 2 ∨ i = 3 ∨ i = 4 ∨ i = 5 ∨ i = 6 ∨ i = 7 ∨ i = 8 ∨ i = 9 ∨ i = 10 := by omega
   rcases hi' with rfl | rfl | rfl | rfl | rfl | rfl | rfl | rfl | rfl | rfl | rfl
   ·exact (hdep ⟨0, .phase⟩ (by simp) rfl).1
   ·exact (hdep ⟨1, .phase⟩ (by simp) rfl).1
   ·exact (hdep ⟨2, .phase⟩ (by simp) rfl).1
   ·exact (hdep ⟨3, .phase⟩ (by simp) rfl).1
   ·exact (hdep ⟨4, .phase⟩ (by simp) rfl).1
   ·exact (hdep ⟨5, .phase⟩ (by simp) rfl).1
   ·exact (hdep ⟨6, .phase⟩ (by simp) rfl).1
   ·exact (hdep ⟨7, .phase⟩ (by simp) rfl).1
   ·exact (hdep ⟨8, .phase⟩ (by simp) rfl).1
   ·exact (hdep ⟨9, .phase⟩ (by simp) rfl).1
   ·exact (hdep ⟨10, .phase⟩ (by simp) rfl).1
  refine st_dgb (.tmp 6) (.tmp 17) (g + 1) z16 K9 rfl q6 q17 rfl HKN.out (hJB.ext.bk R0.out (by decide)) (fun w9 hd ho => ?_)
  exact hK _ _ (JF.fin (by rw [hls]; decide) hall ⟨hd, ho.below w.heap.size (by have := HG.out; omega) _ (Below.trans X0.out (by have h := hJB.ext.below; rw [HG.out] at h; exact h))⟩)
 intro listed f w2 hall hJ
 obtain ⟨⟨xb, xe⟩, _⟩ := hJ.2 (hall 11 (by simp))
 have XB := Hi xb
 have XE := Hi xe
 clear xb xe hJ hall hT
 simp only [putAll, Act.put, List.setIfInBounds_toArray, List.set_cons_zero, List.set_cons_succ, Nat.zero_add, Nat.reduceAdd]
 generalize f 0 = y0
 generalize f 1 = y1
 generalize f 2 = y2
 generalize f 3 = y3
 generalize f 4 = y4
 generalize f 5 = y5
 generalize f 6 = y6
 generalize f 7 = y7
 generalize f 8 = y8
 generalize f 9 = y9
 generalize f 10 = y10
 go_wp2_with fail
 exact bodyPost_ret (res_dgb rfl _ _ (g + 1) rfl K9 HKN.out XB.out) rfl ⟨rfl, XE.out⟩
theorem ord_step {prs : List (Nat × Nat)} {listed : Array Bool} (h : ∀ x ∈ prs, listed.getD x.1 false = true → listed.getD x.2 false = true) {i : Nat} (hi : i < listed.size) (ho : ∀ x ∈ prs, x.1 = i → listed.getD x.2 false = true) : ∀ x ∈ prs, (listed.setIfInBounds i true).getD x.1 false = true → (listed.setIfInBounds i true).getD x.2 false = true := by
 have mono : ∀ c, listed.getD c false = true → (listed.setIfInBounds i true).getD c false = true := fun c hc => by
  by_cases e : i = c
  ·subst e; exact set_new hi
  ·rw [gset e false]; exact hc
 intro x hx h1
 rcases listed_set h1 with e | h1
 ·exact mono _ (ho x hx e)
 exact mono _ (h x hx h1)
theorem key_any (n m : Int) (m0 : 0 ≤ m) (m1 : m < 18446744073709551616) (kl : List UInt8) (hk : kl.length = 16) (w : World) : Calls Try.prog 63 #[.int .i64 n, .int .u64 m, digV kl] w fun e w' => e = .returned (digV (keyL n m kl)) ∧ Ex w w' := by
 obtain ⟨ds, hds⟩ : ∃ ds, ds = (Lib.byteCells kl).toArray := ⟨_, rfl⟩
 have D0 : Hid (Bk ((w.alloc (.cells ds 36)).alloc (.cells #[.int .u8 0, .int .u8 0, .int .u8 0, .int .u8 0, .int .u8 0, .int .u8 0, .int .u8 0, .int .u8 0, .int .u8 0, .int .u8 0, .int .u8 0, .int .u8 0, .int .u8 0, .int .u8 0, .int .u8 0, .int .u8 0] 36)) w.heap.size 36 (Lib.byteCells kl).toArray) := Hi (by rw [← hds]; exact (Bk.new rfl _ _).more _)
 have R0 : Hid (Bk ((w.alloc (.cells ds 36)).alloc (.cells #[.int .u8 0, .int .u8 0, .int .u8 0, .int .u8 0, .int .u8 0, .int .u8 0, .int .u8 0, .int .u8 0, .int .u8 0, .int .u8 0, .int .u8 0, .int .u8 0, .int .u8 0, .int .u8 0, .int .u8 0, .int .u8 0] 36)) (w.heap.size + 1) 36 (Lib.byteCells z16).toArray) := Hi (Bk.new (by simp) _ _)
 have X0 : Hid (Ex w ((w.alloc (.cells ds 36)).alloc (.cells #[.int .u8 0, .int .u8 0, .int .u8 0, .int .u8 0, .int .u8 0, .int .u8 0, .int .u8 0, .int .u8 0, .int .u8 0, .int .u8 0, .int .u8 0, .int .u8 0, .int .u8 0, .int .u8 0, .int .u8 0, .int .u8 0] 36))) := Hi (Ex.trans (Ex.alloc _ _) (Ex.alloc _ _))
 have HK := Hi hk
 rw [show (Calls Try.prog 63 #[.int .i64 n, .int .u64 m, digV kl] w) = (Calls Try.prog 63 #[.int .i64 n, .int .u64 m, .agg ds] w) by rw [hds]; rfl]
 obtain ⟨K9, hK9⟩ : ∃ L, L = keyL n m kl := ⟨_, rfl⟩
 have HKL := Hi hK9
 have HKN : Hid (K9.length = 16) := Hi (by rw [hK9]; exact keyL_len _ _ _)
 rw [← hK9]
 clear hds hk hK9
 go_enter Try.func63, Try.ntmps63
 go_wp2_with fail
 generalize ((w.alloc (.cells ds 36)).alloc (.cells #[.int .u8 0, .int .u8 0, .int .u8 0, .int .u8 0, .int .u8 0, .int .u8 0, .int .u8 0, .int .u8 0, .int .u8 0, .int .u8 0, .int .u8 0, .int .u8 0, .int .u8 0, .int .u8 0, .int .u8 0, .int .u8 0] 36)) = wr at *
 obtain ⟨g, hg⟩ : ∃ i, i = w.heap.size := ⟨_, rfl⟩
 rw [← hg] at D0 R0 ⊢
 have HG := Hi hg
 clear hg
 have hB0 : g ≤ wr.heap.size := Nat.le_of_lt D0.out.lt
 obtain ⟨T, hT⟩ : ∃ T : List Bx, T = [.is (digV kl), .lit (labL), .frz (labL), .is (.int .i64 n), .is (.int .u8 (n % 256)), .own ([Sm.by8 n]), .is (.int .u64 m), .own (Sm.numL m), .any, .own (labL ++ [Sm.by8 n] ++ Sm.numL m), .is (digV K9), .any] := ⟨_, rfl⟩
 refine wp_region_gen (JF 11 (fun (listed : Array Bool) (f : Nat → Value) (w : World) => JB g wr T ([none, some 2, none, none, none, none, none, none, none, none, none, none] : List (Option Nat)) (.slice none 0 0) ([]) 12 listed f w ∧ (fun (listed : Array Bool) (f : Nat → Value) (w : World) => (∀ x ∈ ([(2, 1), (5, 4), (4, 3), (7, 6), (8, 2), (8, 5), (8, 7)] : List (Nat × Nat)), listed.getD x.1 false = true → listed.getD x.2 false = true) ∧ (listed.getD 8 false = true → listed.getD 9 false = false → ∃ (g9 : Nat) (p q r : Pt), f 8 = .slice (some ⟨g9, 0, none⟩) 3 3 ∧ Bk w g9 23 #[p.V, q.V, r.V] ∧ (p.l = labL ∧ q.l = [Sm.by8 n] ∧ r.l = Sm.numL m) ∧ p.In w w.heap.size ∧ q.In w w.heap.size ∧ r.In w w.heap.size)) listed f w) (fun W => Bk W (g + 1) 36 (Lib.byteCells K9).toArray ∧ Ex w W)) (by kernel_rfl) (by kernel_rfl) (by kernel_rfl) (fitB_spec (by kernel_rfl)) (fun listed f h => JF.start h ⟨JB.start hB0 (RU.of (ownU_nil _ _)) listed f h, ⟨fun x _ hx => absurd hx (by rw [h x.1]; decide), fun hx => absurd hx (by rw [h 8]; decide)⟩⟩) ?_ ?_
 ·intro i o ho
  have hi : i < 12 := (Array.getElem?_eq_some_iff.1 ho).1
  have hi' : i = 0 ∨ i = 1 ∨ i = 2 ∨ i = 3 ∨ i = 4 ∨ i = 5 ∨ i = 6 ∨ i = 7 ∨ i = 8 ∨ i = 9 ∨ i = 10 ∨ i = 11 := by omega
  clear hi
  rcases hi' with rfl | rfl | rfl | rfl | rfl | rfl | rfl | rfl | rfl | rfl | rfl | rfl
  all_goals (simp only [List.getElem?_toArray, List.getElem?_cons_zero, List.getElem?_cons_succ, Option.some.injEq] at ho; subst ho; intro listed f a w2 hJ hsz hls hun hdep hout hlat)
  ·obtain ⟨hcl, hJ⟩ := JF.get hJ (show 0 < 11 by decide) hun
   obtain ⟨hJ, hS⟩ := hJ
   rw [if_pos (by rfl)]
   intro K hK
   have q5 := hout 5 ob
   exact ld_dgb (.tmp 5) g kl rfl q5 HK.out (hJ.ext.bk D0.out (by decide)) (hK _ _ (JF.step (by decide) hcl ⟨hJ.pn hls hT, ord_step hS.1 (by rw [hls]; decide) nh, fun e e9 => by rw [upd_ne _ _ (by decide)]; exact hS.2 (by rw [gset (by decide)] at e; exact e) (by rw [gset (by decide)] at e9; exact e9)⟩))
  ·obtain ⟨hcl, hJ⟩ := JF.get hJ (show 1 < 11 by decide) hun
   obtain ⟨hJ, hS⟩ := hJ
   have n8 : listed.getD 8 false = false := by
    cases hc : listed.getD 8 false with
    | false => rfl
    | true =>
     have hc0 := hS.1 (8, 2) (by simp) hc
     have hc1 := hS.1 (2, 1) (by simp) hc0
     rw [hun] at hc1; cases hc1
   rw [if_pos (by rfl)]
   intro K hK
   have hK := fun v w' h => hK v w' (JF.step (by decide) hcl ⟨h, ord_step hS.1 (by rw [hls]; decide) nh, (fun e => absurd e (by rw [gset (by decide), n8]; decide))⟩)
   clear hsz hdep hout hlat
   go_simp
   exact hK _ _ (hJ.fresh (by rw [hls]; decide) (by rw [hT]; rfl) (Ex.alloc _ _) (by rw [hT]; exact ⟨_, rfl⟩) (RU.of (lit_own _ _ (labL) (by rfl) (by decide))))
  ·obtain ⟨hcl, hJ⟩ := JF.get hJ (show 2 < 11 by decide) hun
   obtain ⟨hJ, hS⟩ := hJ
   have hl1 := (hdep ⟨1, .data⟩ (by simp) rfl).1
   have hord : ∀ x ∈ ([(2, 1), (5, 4), (4, 3), (7, 6), (8, 2), (8, 5), (8, 7)] : List (Nat × Nat)), x.1 = 2 → listed.getD x.2 false = true := (by intro x hx he; simp only [List.mem_cons, List.not_mem_nil, or_false] at hx; rcases hx with rfl | rfl | rfl | rfl | rfl | rfl | rfl; all_goals first | (exact absurd he (by decide)) | assumption)
   have n8 : listed.getD 8 false = false := by
    cases hc : listed.getD 8 false with
    | false => rfl
    | true =>
     have hc0 := hS.1 (8, 2) (by simp) hc
     rw [hun] at hc0; cases hc0
   rw [if_pos (by rfl)]
   intro K hK
   have hK := fun v w' h => hK v w' (JF.step (by decide) hcl ⟨h, ord_step hS.1 (by rw [hls]; decide) hord, (fun e => absurd e (by rw [gset (by decide), n8]; decide))⟩)
   have dd8 := hdep ⟨1, .data⟩ (by simp) rfl
   have q8 := dd8.2 _ rfl _ rfl
   have p8 : ∃ g, f 1 = .slice (some ⟨g, 0, none⟩) (labL).length (labL).length := by
    have h9 := hJ.vals 1 dd8.1
    rw [hT] at h9; exact h9
   have h8 : ownU w2 g (f 1) (labL) := RU.own (hJ.rows 1 _ dd8.1 (by rw [hT]; rfl) (fun c hc => by have hc : some 2 = some c := hc; cases hc; exact hun))
   obtain ⟨g9, e9⟩ := p8
   have h9 := h8
   rw [e9] at h9
   refine wp_frz (.tmp 8) rfl g9 (labL) (q8.trans e9) (lit_back h9) (fun w9 b9 k9 => hK _ _ ?_)
   exact hJ.app (by rw [hls]; decide) hun dd8.1 rfl (by rw [hT]; rfl) (by rw [hT]; rfl) (by rw [hT]; exact trivial) (by rw [e9]; exact k9) (Or.inl (by rw [e9])) (show RU w9 g _ (true, labL) from (⟨g9, rfl, (World.ownsRow.lt h9 g9 rfl).1, b9⟩ : Fz w9 g _ (labL)))
  ·obtain ⟨hcl, hJ⟩ := JF.get hJ (show 3 < 11 by decide) hun
   obtain ⟨hJ, hS⟩ := hJ
   have n8 : listed.getD 8 false = false := by
    cases hc : listed.getD 8 false with
    | false => rfl
    | true =>
     have hc0 := hS.1 (8, 5) (by simp) hc
     have hc1 := hS.1 (5, 4) (by simp) hc0
     have hc2 := hS.1 (4, 3) (by simp) hc1
     rw [hun] at hc2; cases hc2
   rw [if_pos (by rfl)]
   intro K hK
   have hK := fun v w' h => hK v w' (JF.step (by decide) hcl ⟨h, ord_step hS.1 (by rw [hls]; decide) nh, (fun e => absurd e (by rw [gset (by decide), n8]; decide))⟩)
   have q0 := hout 0 ob
   exact wp_mw _ rfl q0 (hK _ _ (hJ.pn hls hT))
  ·obtain ⟨hcl, hJ⟩ := JF.get hJ (show 4 < 11 by decide) hun
   obtain ⟨hJ, hS⟩ := hJ
   have hl3 := (hdep ⟨3, .data⟩ (by simp) rfl).1
   have hord : ∀ x ∈ ([(2, 1), (5, 4), (4, 3), (7, 6), (8, 2), (8, 5), (8, 7)] : List (Nat × Nat)), x.1 = 4 → listed.getD x.2 false = true := (by intro x hx he; simp only [List.mem_cons, List.not_mem_nil, or_false] at hx; rcases hx with rfl | rfl | rfl | rfl | rfl | rfl | rfl; all_goals first | (exact absurd he (by decide)) | assumption)
   have n8 : listed.getD 8 false = false := by
    cases hc : listed.getD 8 false with
    | false => rfl
    | true =>
     have hc0 := hS.1 (8, 5) (by simp) hc
     have hc1 := hS.1 (5, 4) (by simp) hc0
     rw [hun] at hc1; cases hc1
   rw [if_pos (by rfl)]
   intro K hK
   have hK := fun v w' h => hK v w' (JF.step (by decide) hcl ⟨h, ord_step hS.1 (by rw [hls]; decide) hord, (fun e => absurd e (by rw [gset (by decide), n8]; decide))⟩)
   have dd10 := hdep ⟨3, .data⟩ (by simp) rfl
   have q10 := dd10.2 _ rfl _ rfl
   have h10 := hJ.vals 3 dd10.1
   rw [hT] at h10
   rw [show f 3 = .int .i64 n from h10] at q10
   clear h10 dd10
   rw [gd9] at q10
   clear hsz hdep hout hlat
   go_simp
   exact hK _ _ (hJ.pn hls hT)
  ·obtain ⟨hcl, hJ⟩ := JF.get hJ (show 5 < 11 by decide) hun
   obtain ⟨hJ, hS⟩ := hJ
   have hl4 := (hdep ⟨4, .data⟩ (by simp) rfl).1
   have hord : ∀ x ∈ ([(2, 1), (5, 4), (4, 3), (7, 6), (8, 2), (8, 5), (8, 7)] : List (Nat × Nat)), x.1 = 5 → listed.getD x.2 false = true := (by intro x hx he; simp only [List.mem_cons, List.not_mem_nil, or_false] at hx; rcases hx with rfl | rfl | rfl | rfl | rfl | rfl | rfl; all_goals first | (exact absurd he (by decide)) | assumption)
   have n8 : listed.getD 8 false = false := by
    cases hc : listed.getD 8 false with
    | false => rfl
    | true =>
     have hc0 := hS.1 (8, 5) (by simp) hc
     rw [hun] at hc0; cases hc0
   rw [if_pos (by rfl)]
   intro K hK
   have hK := fun v w' h => hK v w' (JF.step (by decide) hcl ⟨h, ord_step hS.1 (by rw [hls]; decide) hord, (fun e => absurd e (by rw [gset (by decide), n8]; decide))⟩)
   have dd11 := hdep ⟨4, .data⟩ (by simp) rfl
   have q11 := dd11.2 _ rfl _ rfl
   have h11 := hJ.vals 4 dd11.1
   rw [hT] at h11
   rw [show f 4 = .int .u8 (n % 256) from h11] at q11
   clear h11 dd11
   rw [gd9] at q11
   clear hsz hdep hout hlat
   go_simp
   exact hK _ _ (hJ.fresh (by rw [hls]; decide) (by rw [hT]; rfl) (Ex.alloc _ _) (by rw [hT]; exact trivial) (RU.of (lit_own _ _ ([Sm.by8 n]) (by simp [Lib.byteCells, Sm.by8_int]) (by simp))))
  ·obtain ⟨hcl, hJ⟩ := JF.get hJ (show 6 < 11 by decide) hun
   obtain ⟨hJ, hS⟩ := hJ
   have n8 : listed.getD 8 false = false := by
    cases hc : listed.getD 8 false with
    | false => rfl
    | true =>
     have hc0 := hS.1 (8, 7) (by simp) hc
     have hc1 := hS.1 (7, 6) (by simp) hc0
     rw [hun] at hc1; cases hc1
   rw [if_pos (by rfl)]
   intro K hK
   have hK := fun v w' h => hK v w' (JF.step (by decide) hcl ⟨h, ord_step hS.1 (by rw [hls]; decide) nh, (fun e => absurd e (by rw [gset (by decide), n8]; decide))⟩)
   have q1 := hout 1 ob
   exact wp_mw _ rfl q1 (hK _ _ (hJ.pn hls hT))
  ·obtain ⟨hcl, hJ⟩ := JF.get hJ (show 7 < 11 by decide) hun
   obtain ⟨hJ, hS⟩ := hJ
   have hl6 := (hdep ⟨6, .data⟩ (by simp) rfl).1
   have hord : ∀ x ∈ ([(2, 1), (5, 4), (4, 3), (7, 6), (8, 2), (8, 5), (8, 7)] : List (Nat × Nat)), x.1 = 7 → listed.getD x.2 false = true := (by intro x hx he; simp only [List.mem_cons, List.not_mem_nil, or_false] at hx; rcases hx with rfl | rfl | rfl | rfl | rfl | rfl | rfl; all_goals first | (exact absurd he (by decide)) | assumption)
   have n8 : listed.getD 8 false = false := by
    cases hc : listed.getD 8 false with
    | false => rfl
    | true =>
     have hc0 := hS.1 (8, 7) (by simp) hc
     rw [hun] at hc0; cases hc0
   rw [if_pos (by rfl)]
   intro K hK
   have hK := fun v w' h => hK v w' (JF.step (by decide) hcl ⟨h, ord_step hS.1 (by rw [hls]; decide) hord, (fun e => absurd e (by rw [gset (by decide), n8]; decide))⟩)
   have dd13 := hdep ⟨6, .data⟩ (by simp) rfl
   have q13 := dd13.2 _ rfl _ rfl
   have h13 := hJ.vals 6 dd13.1
   rw [hT] at h13
   rw [show f 6 = .int .u64 m from h13] at q13
   clear h13 dd13
   rw [gd9] at q13
   clear hsz hdep hout hlat
   go_simp
   refine (num_row m m0 m1 w2).mono ?_
   rintro e w3 ⟨v, rfl, on, xn⟩
   exact hK _ _ (hJ.fresh (by rw [hls]; decide) (by rw [hT]; rfl) xn (by rw [hT]; exact trivial) (RU.of on))
  ·obtain ⟨hcl, hJ⟩ := JF.get hJ (show 8 < 11 by decide) hun
   obtain ⟨hJ, hS⟩ := hJ
   have hl2 := (hdep ⟨2, .data⟩ (by simp) rfl).1
   have hl5 := (hdep ⟨5, .data⟩ (by simp) rfl).1
   have hl7 := (hdep ⟨7, .data⟩ (by simp) rfl).1
   have hord : ∀ x ∈ ([(2, 1), (5, 4), (4, 3), (7, 6), (8, 2), (8, 5), (8, 7)] : List (Nat × Nat)), x.1 = 8 → listed.getD x.2 false = true := (by intro x hx he; simp only [List.mem_cons, List.not_mem_nil, or_false] at hx; rcases hx with rfl | rfl | rfl | rfl | rfl | rfl | rfl; all_goals first | (exact absurd he (by decide)) | assumption)
   rw [if_pos (by rfl)]
   intro K hK
   have dd9 := hdep ⟨2, .data⟩ (by simp) rfl
   have q9 := dd9.2 _ rfl _ rfl
   have h9 : Fz w2 g (f 2) (labL) := RU.fz (hJ.rows 2 _ dd9.1 (by rw [hT]; rfl) (fun c hc => by have hc : none = some c := hc; cases hc))
   have dd12 := hdep ⟨5, .data⟩ (by simp) rfl
   have q12 := dd12.2 _ rfl _ rfl
   have h12 : ownU w2 g (f 5) ([Sm.by8 n]) := RU.own (hJ.rows 5 _ dd12.1 (by rw [hT]; rfl) (fun c hc => by have hc : none = some c := hc; cases hc))
   have dd14 := hdep ⟨7, .data⟩ (by simp) rfl
   have q14 := dd14.2 _ rfl _ rfl
   have h14 : ownU w2 g (f 7) (Sm.numL m) := RU.own (hJ.rows 7 _ dd14.1 (by rw [hT]; rfl) (fun c hc => by have hc : none = some c := hc; cases hc))
   obtain ⟨p9, e9, n9, i9⟩ := RU.pt (r := (true, labL)) h9
   obtain ⟨p12, e12, n12, i12, _⟩ := own_pt h12
   obtain ⟨p14, e14, n14, i14, _⟩ := own_pt h14
   rw [e9] at q9
   rw [e12] at q12
   rw [e14] at q14
   have v9 : p9.V = .slice p9.ad p9.l.length p9.cap := rfl
   have v12 : p12.V = .slice p12.ad p12.l.length p12.cap := rfl
   have v14 : p14.V = .slice p14.ad p14.l.length p14.cap := rfl
   rw [v9] at q9
   rw [v12] at q12
   rw [v14] at q14
   rw [gd9] at q9
   rw [gd9] at q12
   rw [gd9] at q14
   have x9 : Ex w2 (w2.alloc (.cells #[p9.V, p12.V, p14.V] 23)) := Ex.alloc _ _
   have HF := Hi (hK (.slice (some ⟨w2.heap.size, 0, none⟩) 3 3) (w2.alloc (.cells #[p9.V, p12.V, p14.V] 23)) (JF.step (by decide) hcl ⟨hJ.plain (by rw [hls]; decide) (by rw [hT]; rfl) x9 (by rw [hT]; exact trivial), ord_step hS.1 (by rw [hls]; decide) hord, fun _ _ => ⟨w2.heap.size, p9, p12, p14, by rw [upd_same], Bk.new rfl _ _, ⟨n9, n12, n14⟩, i9.ext x9, i12.ext x9, i14.ext x9⟩⟩))
   rw [v9, v12, v14] at HF
   clear hsz hdep hout hlat v9 v12 v14 x9 hJ hS hK n9 n12 n14 i9 i12 i14
   go_simp
   exact HF.out
  ·obtain ⟨hcl, hJ⟩ := JF.get hJ (show 9 < 11 by decide) hun
   obtain ⟨hJ, hS⟩ := hJ
   rw [if_pos (by rfl)]
   intro K hK
   have hK := fun v w' h => hK v w' (JF.step (by decide) hcl ⟨h, ord_step hS.1 (by rw [hls]; decide) nh, (fun _ e => absurd e (by rw [set_new (by rw [hls]; decide)]; decide))⟩)
   have dd15 := hdep ⟨8, .data⟩ (by simp) rfl
   have q15 := dd15.2 _ rfl _ rfl
   clear dd15
   have l8 := (hdep ⟨8, .data⟩ (by simp) rfl).1
   obtain ⟨g9, p9, q9, r9, e9, b9, n9, i1, i2, i3⟩ := hS.2 l8 hun
   rw [e9] at q15
   rw [gd9] at q15
   clear hsz hdep hout hlat
   go_simp
   refine (conc3_any p9 q9 r9 g9 w2 i1 i2 i3 b9 (by rw [n9.1, n9.2.1, n9.2.2]; simp [labL, numL_len])).mono ?_
   rintro e w3 ⟨v, rfl, on, x3⟩
   rw [n9.1, n9.2.1, n9.2.2] at on
   exact hK _ _ (hJ.fresh (by rw [hls]; decide) (by rw [hT]; rfl) x3 (by rw [hT]; exact trivial) (RU.of on))
  ·obtain ⟨hcl, hJ⟩ := JF.get hJ (show 10 < 11 by decide) hun
   obtain ⟨hJ, hS⟩ := hJ
   have l9 := (hdep ⟨9, .data⟩ (by simp) rfl).1
   rw [if_pos (by rfl)]
   intro K hK
   have hK := fun v w' h => hK v w' (JF.step (by decide) hcl ⟨h, ord_step hS.1 (by rw [hls]; decide) nh, (fun _ e => absurd e (by rw [gset (by decide), l9]; decide))⟩)
   have dd7 := hdep ⟨0, .data⟩ (by simp) rfl
   have q7 := dd7.2 _ rfl _ rfl
   have h7 := hJ.vals 0 dd7.1
   rw [hT] at h7
   rw [show f 0 = digV kl from h7] at q7
   clear h7 dd7
   have dd16 := hdep ⟨9, .data⟩ (by simp) rfl
   have q16 := dd16.2 _ rfl _ rfl
   have h16 : ownU w2 g (f 9) (labL ++ [Sm.by8 n] ++ Sm.numL m) := RU.own (hJ.rows 9 _ dd16.1 (by rw [hT]; rfl) (fun c hc => by have hc : none = some c := hc; cases hc))
   obtain ⟨p9, e9, n9, i9, _⟩ := own_pt h16
   rw [e9] at q16
   rw [gd9] at q7
   rw [gd9] at q16
   clear hsz hdep hout hlat
   go_simp
   refine (key9_any kl HK.out p9 w2 i9 (by rw [n9]; simp [labL, numL_len])).mono ?_
   rintro e w3 ⟨rfl, x3⟩
   exact hK _ _ (hJ.plain (by rw [hls]; decide) (by rw [hT]; rfl) x3 (by rw [hT, n9, HKL.out]; rfl))
  replace hJ := (hJ.1 hun).1
  rw [if_pos (by rfl)]
  intro K hK
  have q6 := hout 6 ob
  have dd17 := hdep ⟨10, .data⟩ (by simp) rfl
  have q17 := dd17.2 _ rfl _ rfl
  have h17 := hJ.vals 10 dd17.1
  rw [hT] at h17
  rw [show f 10 = digV K9 from h17] at q17
  clear h17 dd17
  have hJB := hJ
  have hall : ∀ i, i < 11 → listed.getD i false = true := fun i hi => by
   have hi' : i = 0 ∨ i = 1 ∨ i = 2 ∨ i = 3 ∨ i = 4 ∨ i = 5 ∨ i = 6 ∨ i = 7 ∨ i = 8 ∨ i = 9 ∨ i = 10 := by omega
   rcases hi' with rfl | rfl | rfl | rfl | rfl | rfl | rfl | rfl | rfl | rfl | rfl
   ·exact (hdep ⟨0, .phase⟩ (by simp) rfl).1
   ·exact (hdep ⟨1, .phase⟩ (by simp) rfl).1
   ·exact (hdep ⟨2, .phase⟩ (by simp) rfl).1
   ·exact (hdep ⟨3, .phase⟩ (by simp) rfl).1
   ·exact (hdep ⟨4, .phase⟩ (by simp) rfl).1
   ·exact (hdep ⟨5, .phase⟩ (by simp) rfl).1
   ·exact (hdep ⟨6, .phase⟩ (by simp) rfl).1
   ·exact (hdep ⟨7, .phase⟩ (by simp) rfl).1
   ·exact (hdep ⟨8, .phase⟩ (by simp) rfl).1
   ·exact (hdep ⟨9, .phase⟩ (by simp) rfl).1
   ·exact (hdep ⟨10, .phase⟩ (by simp) rfl).1
  refine st_dgb (.tmp 6) (.tmp 17) (g + 1) z16 K9 rfl q6 q17 rfl HKN.out (hJB.ext.bk R0.out (by decide)) (fun w9 hd ho => ?_)
  exact hK _ _ (JF.fin (by rw [hls]; decide) hall ⟨hd, ho.below w.heap.size (by have := HG.out; omega) _ (Below.trans X0.out (by have h := hJB.ext.below; rw [HG.out] at h; exact h))⟩)
 intro listed f w2 hall hJ
 obtain ⟨⟨xb, xe⟩, _⟩ := hJ.2 (hall 11 (by simp))
 have XB := Hi xb
 have XE := Hi xe
 clear xb xe hJ hall hT
 simp only [putAll, Act.put, List.setIfInBounds_toArray, List.set_cons_zero, List.set_cons_succ, Nat.zero_add, Nat.reduceAdd]
 generalize f 0 = y0
 generalize f 1 = y1
 generalize f 2 = y2
 generalize f 3 = y3
 generalize f 4 = y4
 generalize f 5 = y5
 generalize f 6 = y6
 generalize f 7 = y7
 generalize f 8 = y8
 generalize f 9 = y9
 generalize f 10 = y10
 go_wp2_with fail
 exact bodyPost_ret (res_dgb rfl _ _ (g + 1) rfl K9 HKN.out XB.out) rfl ⟨rfl, XE.out⟩
end Go.Proofs.Ytopamplmpfndlaa.Cl
