/- MVeA, MVeB -/
import Derived.Test.YtopamplmpfndlaaEao
import Derived.Test.YtopamplmpfndlaaEap
import Derived.Laws.OwnMore
set_option maxRecDepth 100000
set_option maxHeartbeats 16000000
namespace Go.Proofs.Ytopamplmpfndlaa.Sm
open Go.RowKit
def OwnPost (l : List UInt8) (w : World) (e : Ending) (w' : World) : Prop := ∃ v, e = .returned v ∧ ownU w' w.heap.size v l ∧ Ex w w'
theorem own_less {w : World} {B B' : Nat} {v : Value} {l : List UInt8} (h : ownU w B v l) (k : B' ≤ B) : ownU w B' v l := by
 obtain ⟨h1, h2 | ⟨g, cap, cur, h3, h4, r⟩⟩ := h
 ·exact ⟨h1, .inl h2⟩
 exact ⟨h1, .inr ⟨g, cap, cur, h3, by omega, r⟩⟩
theorem own_take {w : World} {B m n c : Nat} {ad : Option Addr} {l : List UInt8} (h : ownU w B (.slice ad n c) l) (hn : l.length = n) (hm : m ≤ n) : ownU w B (.slice ad m c) (l.take m) := by
 have hl : (l.take m).length = m := by rw [List.length_take]; omega
 have hb : (Lib.byteCells (l.take m)) = (Lib.byteCells l).take m := by simp [Lib.byteCells, List.map_take]
 unfold ownU at h ⊢
 rw [hl]
 rw [hn] at h
 obtain ⟨h1, ⟨h2, h3⟩ | ⟨g, cap, cur, h3, h4, h5, h6, h7, h8, h9⟩⟩ := h
 ·refine ⟨by rw [hb, List.length_take, h1]; omega, .inl ⟨?_, by omega⟩⟩
  injection h2 with a b c
  subst a; subst c
  rw [show m = 0 by omega]
 refine ⟨by rw [hb, List.length_take, h1]; omega, .inr ⟨g, cap, cur, ?_, h4, h5, by omega, h7, h8, ?_⟩⟩
 ·injection h3 with a b c
  rw [a, c]
 rw [hb, ← h9, List.take_take]
 congr 1; omega
theorem own_slice {w : World} {B : Nat} {v : Value} {l : List UInt8} (h : ownU w B v l) (h0 : 0 < l.length) : ∃ g c, v = .slice (some ⟨g, 0, none⟩) l.length c ∧ B ≤ g ∧ g < w.heap.size ∧ l.length ≤ c := by
 obtain ⟨h1, ⟨h2, h3⟩ | ⟨g, cap, cur, h3, h4, h5, h6, r⟩⟩ := h
 ·omega
 refine ⟨g, cap, h3, h4, ?_, h6⟩
 rcases Nat.lt_or_ge g w.heap.size with hlt | hge
 ·exact hlt
 rw [Array.getElem?_eq_none hge] at h5; cases h5
theorem own_put {w : World} {B g n c : Nat} {l : List UInt8} (h : ownU w B (.slice (some ⟨g, 0, none⟩) n c) l) (hn : l.length = n) (j : Nat) (x : UInt8) : ownU (w.setCell ⟨g, j, none⟩ (.int .u8 x.toNat)) B (.slice (some ⟨g, 0, none⟩) n c) (l.set j x) := by
 unfold ownU at h ⊢
 rw [List.length_set, hn]
 rw [hn] at h
 have k := (World.ownsRow.stored h j (.int .u8 x.toNat)).1
 have e : (Lib.byteCells l).set j (.int .u8 x.toNat) = Lib.byteCells (l.set j x) := by simp [Lib.byteCells, List.map_set]
 rw [e] at k
 exact k
theorem own_at {w : World} {B g n c : Nat} {l : List UInt8} (h : ownU w B (.slice (some ⟨g, 0, none⟩) n c) l) (hn : l.length = n) (j : Nat) (hj : j < n) : w.cell? ⟨g, j, none⟩ = some (.int .u8 (l.getD j 0).toNat) ∧ w.frozen? ⟨g, j, none⟩ = false := by
 unfold ownU at h
 rw [hn] at h
 refine ⟨?_, World.ownsRow.frozenAt h j⟩
 rw [World.ownsRow.cellAt h j (by omega)]
 simp [Lib.byteCells, List.getD, hn, hj]
theorem own_pt0 {w : World} {B : Nat} {v : Value} {l : List UInt8} (h : ownU w B v l) : ∃ p : Pt, v = p.V ∧ p.l = l ∧ p.In w w.heap.size := by
 obtain ⟨p, h1, h2, h3, _⟩ := own_pt h
 exact ⟨p, h1, h2, h3⟩
theorem own_run {w : World} (ty : TypeId) (B : Nat) (v : Value) (l : List UInt8) (ow : ownU w B v l) (q : Pt) (hq : q.In w w.heap.size) (hB : B ≤ w.heap.size) (hN : l.length + q.l.length ≤ 100000000000000) (hq0 : 0 < q.l.length) :
  ∃ v' w', (Builtin.append_ #[23, 23] ty #[v, q.V]).run Try.prog w = .ok v' w' ∧ ownU w' B v' (l ++ q.l) ∧ Below B w w' := by
 obtain ⟨i0, hi0, hz0, hz1, hz2⟩ := info_parts sm_u8
 obtain ⟨aq, hqa, hqc⟩ := hq.cells hq0
 unfold Pt.V
 rw [hqa]
 obtain ⟨v', w', hr, r1, r2, _⟩ := run_append_own (P := Try.prog) w B 23 ty 5 i0 _ 1 1 Try.underlying23 hi0 hz0 hz1 hz2 rfl (by omega) v _ _ ow aq q.l.length q.cap (Lib.byteCells q.l) (by simp [Lib.byteCells]) hqc (fun u hu => by
  unfold Lib.byteCells at hu; simp at hu; obtain ⟨b, _, rfl⟩ := hu; rfl) (by unfold maxLen; omega) (by omega) hB
 refine ⟨v', w', hr, ?_, (Below.refl _ _).grown r2 hB (fun k hk => ?_)⟩
 ·unfold ownU
  rw [List.length_append, byteCells_app]; exact r1
 exact (World.ownsRow.lt ow k hk).1
theorem wp_app_own {o : Oper} {a : Act} {w : World} {K : Act → World → Prop} {Q : Exit → Act → World → Prop} (s x : Operand)
  (hop : o.op = .call { callee := .builtin .append, args := #[s, x], argTypes := #[23, 23] }) (B : Nat) (v : Value) (l : List UInt8) (q : Pt) (hs : a.eval s = v) (hx : a.eval x = q.V)
  (ow : ownU w B v l) (hq : q.In w w.heap.size) (hB : B ≤ w.heap.size) (hN : l.length + q.l.length ≤ 100000000000000) (hq0 : 0 < q.l.length)
  (h : ∀ v' w', ownU w' B v' (l ++ q.l) → Below B w w' → K (a.put o.dst v') w') : o.wp Try.prog a w K Q := by
 obtain ⟨v', w', hrun, r1, r2⟩ := own_run o.type B v l ow q hq hB hN hq0
 unfold Oper.wp
 simp [execOp, hop, resolve, invoke, builtin, hs, hx, hrun, Result.andThen]
 exact h v' w' r1 r2
theorem stream_own (kl : List UInt8) (hk : kl.length = 16) (n : Int) (n0 : 0 ≤ n) (n1 : n < 18446744073709551616) (m : Nat) (hm : m ≤ 8192) (w : World) :
  Calls Try.prog 156 #[digV kl, .int .u64 n, .int .i64 m] w (OwnPost (streamL kl n m) w) := by
 obtain ⟨cs, hcs⟩ : ∃ cs, cs = Lib.byteCells kl := ⟨_, rfl⟩
 have hv : digV kl = .agg cs.toArray := by rw [hcs]; rfl
 have hcl : cs.length = 16 := by rw [hcs]; simp [Lib.byteCells, hk]
 have KY := Lib.hid (fun (W : World) (p : Pt) (h : p.In W W.heap.size) (hm : p.l.length ≤ 90000000000000) => keyed_any kl hk p W h hm)
 have hi5 := Lib.hid (show (Try.prog.info? 36).map (·.size) = some cs.length by rw [sm_dsize, hcl])
 obtain ⟨dd, hd⟩ : ∃ d, Try.prog.underlying 36 = some d ∧ d.isRow = true := ⟨_, Try.underlying36, rfl⟩
 have HD := Lib.hid hd
 rw [hv] at KY ⊢
 have hrg := Lib.hid ((Bk.new (w := w) rfl 36 cs.toArray).range)
 have bs := (Below.refl w.heap.size w).alloc (Nat.le_refl _) (.cells cs.toArray 36)
 have HCL := Lib.hid hcl
 have HCS := Lib.hid hcs
 clear hv hd hcl hcs
 go_enter Try.func156, Try.ntmps156
 go_wp2_with fail
 go_loopw [7, 8] (fun v i wr => ∃ j : Nat, 16 * j ≤ m + 15 ∧ i = .int .u64 j ∧ Hid (ownU wr (w.heap.size + 1) v (strB kl n j)) ∧ Hid (wr.rangeAt w.heap.size 0 cs) ∧ Below w.heap.size w wr ∧ w.heap.size + 1 ≤ wr.heap.size) (fun _ i _ => m + 16 - 16 * (intOf i).toNat)
 case atStart => exact ⟨0, by omega, rfl, Lib.hid (World.ownsRow_nil _ _ _ _), hrg, bs, by simp⟩
 clear hrg bs
 obtain ⟨j, hj, rfl, own, hrg, bw, hz⟩ := hrel
 obtain ⟨q, rfl, hql, hqi, _⟩ := own_pt own.out
 have hlen : q.l.length = 16 * j := by rw [hql, strB_len]
 obtain ⟨ln, hln⟩ : ∃ x, x = q.l.length := ⟨_, rfl⟩
 have hqv : q.V = .slice q.ad ln q.cap := by rw [hln]; rfl
 rw [← hln] at hlen
 have HLN := Lib.hid hlen
 have hcap : ln ≤ q.cap := by rw [hln]; exact hqi.cap
 have HQV := Lib.hid hqv
 have HQI := Lib.hid hqi
 have HQL := Lib.hid hql
 rw [hqv]
 clear hln hqv hqi hql
 by_cases hlt : ln < m
 rotate_left
 ·clear hlen
  have hlm : m ≤ ln := by omega
  have hmc : m ≤ q.cap := by omega
  go_wp2_with fail
  go_ret
  have hj2 : j = (m + 15) / 16 := by have := HLN.out; omega
  have hsl : streamL kl n m = q.l.take m := by unfold streamL; rw [HQL.out, hj2]
  have hlen : q.l.length = ln := by rw [HQL.out, strB_len, HLN.out]
  have hsz : (streamL kl n m).length = m := by rw [hsl, List.length_take]; omega
  refine ⟨_, rfl, ?_, bw⟩
  have h := own.out
  rw [← HQL.out, HQV.out] at h
  have k := own_take (m := m) h (by omega) (by omega)
  rw [← hsl] at k
  exact own_less k (Nat.le_succ _)
 clear hlen
 go_wp2_with fail
 obtain ⟨T, hT⟩ : ∃ T : List As, T = [.is (.agg cs.toArray), .is (.int .u64 n), .pt (numL n), .is (.int .u64 j), .pt (numL (j : Int)), .two (numL n) (numL (j : Int)), .pt (numL n ++ numL (j : Int)), .is (digV (sumL (kl ++ (numL n ++ numL (j : Int))))), .blk wr.heap.size 36 zero16] := ⟨_, rfl⟩
 refine wp_region_flow 9 (tabPhi T) (by kernel_rfl) rfl (by kernel_rfl) (by kernel_rfl) (by kernel_rfl) (tabPhi_stable T) (fitB_spec (by kernel_rfl)) ?_ ?_
 ·intro i o hi ho
  have hi' : i = 0 ∨ i = 1 ∨ i = 2 ∨ i = 3 ∨ i = 4 ∨ i = 5 ∨ i = 6 ∨ i = 7 ∨ i = 8 := by omega
  rcases hi' with rfl | rfl | rfl | rfl | rfl | rfl | rfl | rfl | rfl
  all_goals (simp only [List.getElem?_toArray, List.getElem?_cons_zero, List.getElem?_cons_succ, Option.some.injEq] at ho; subst ho; intro a w2 hx hsz hdep hout; rw [if_pos (by rfl)]; intro K hK)
  ·have f3 := hout 3 (outB_spec (by kernel_rfl))
   exact wp_load_mid 36 _ rfl w.heap.size 0 f3 cs dd (fun x v hv => (hx.cell (p := ⟨w.heap.size, 0 + x, none⟩) (by show w.heap.size < wr.heap.size; omega)).trans (hrg.out x v hv)) HD.out.1 HD.out.2 hi5.out (hK _ _ (Ex.refl _) (by rw [hT]; rfl))
  ·have f1 := hout 1 (outB_spec (by kernel_rfl))
   exact wp_mv _ rfl (hK _ _ (Ex.refl _) (by rw [hT]; exact f1))
  ·obtain ⟨v, hv, h2⟩ := hdep ⟨1, .data⟩ (by simp) rfl _ rfl
   have h3 := h2 _ rfl
   rw [hT] at hv
   obtain rfl : v = .int .u64 n := hv
   go_simp
   refine (numberP n (by omega) (by omega) w2).mono ?_
   rintro e w3 ⟨p, rfl, hl, hin, hex⟩
   exact hK _ _ hex (by rw [hT]; exact ⟨p, rfl, hl, hin⟩)
  ·have f8 := hout 8 (outB_spec (by kernel_rfl))
   exact wp_mv _ rfl (hK _ _ (Ex.refl _) (by rw [hT]; exact f8))
  ·obtain ⟨v, hv, h2⟩ := hdep ⟨3, .data⟩ (by simp) rfl _ rfl
   have h3 := h2 _ rfl
   rw [hT] at hv
   obtain rfl : v = .int .u64 (j : Int) := hv
   go_simp
   refine (numberP (j : Int) (by omega) (by omega) w2).mono ?_
   rintro e w3 ⟨p, rfl, hl, hin, hex⟩
   exact hK _ _ hex (by rw [hT]; exact ⟨p, rfl, hl, hin⟩)
  ·obtain ⟨v, hv, h2⟩ := hdep ⟨2, .data⟩ (by simp) rfl _ rfl
   have h3 := h2 _ rfl
   obtain ⟨u, hu, h4⟩ := hdep ⟨4, .data⟩ (by simp) rfl _ rfl
   have h5 := h4 _ rfl
   rw [hT] at hv hu
   obtain ⟨p1, rfl, l1, i1⟩ := hv
   obtain ⟨p2, rfl, l2, i2⟩ := hu
   have h3 : a.tmps.getD 21 undef = .slice p1.ad p1.l.length p1.cap := h3
   have h5 : a.tmps.getD 23 undef = .slice p2.ad p2.l.length p2.cap := h5
   rw [Array.getD_eq_getD_getElem?] at h3 h5
   have L1 := Lib.hid l1
   have L2 := Lib.hid l2
   clear hsz hdep hout h2 h4 l1 l2
   go_simp
   have hex : Ex w2 (w2.alloc (.cells #[p1.V, p2.V] 23)) := (Below.refl _ _).alloc (Nat.le_refl _) _
   exact hK _ _ hex (by rw [hT]; exact ⟨w2.heap.size, p1, p2, rfl, L1.out, L2.out, i1.ext hex, i2.ext hex, Bk.new rfl _ _⟩)
  ·obtain ⟨v, hv, h2⟩ := hdep ⟨5, .data⟩ (by simp) rfl _ rfl
   have h3 := h2 _ rfl
   rw [hT] at hv
   obtain ⟨g, p1, p2, rfl, l1, l2, i1, i2, hb⟩ := hv
   go_simp
   refine (concatP g p1 p2 w2 i1 i2 hb (by rw [l1, l2]; simp [numL])).mono ?_
   rintro e w3 ⟨p, rfl, hl, hin, hex⟩
   exact hK _ _ hex (by rw [hT]; exact ⟨p, rfl, by rw [hl, l1, l2], hin⟩)
  ·obtain ⟨v, hv, h2⟩ := hdep ⟨0, .data⟩ (by simp) rfl _ rfl
   have h3 := h2 _ rfl
   obtain ⟨u, hu, h4⟩ := hdep ⟨6, .data⟩ (by simp) rfl _ rfl
   have h5 := h4 _ rfl
   rw [hT] at hv hu
   obtain rfl : v = .agg cs.toArray := hv
   obtain ⟨p1, rfl, l1, i1⟩ := hu
   go_simp
   refine (KY.out w2 p1 i1 (by rw [l1]; simp [numL])).mono ?_
   rintro e w3 ⟨rfl, hex⟩
   exact hK _ _ hex (by rw [hT, l1]; rfl)
  go_simp
  have hex : Ex w2 (w2.alloc (.cells zero16 36)) := (Below.refl _ _).alloc (Nat.le_refl _) _
  exact hK _ _ hex (by rw [hT]; exact ⟨w2.heap.size, rfl, hx.size, Bk.new rfl _ _⟩)
 intro a w2 hx hdef hsz hdone hout
 have hx : Ex wr w2 := Below.trans (Below.refl _ _).drew hx
 obtain ⟨v7, h7, g7⟩ := hdone 7 _ (by omega) rfl
 obtain ⟨v8, h8, g8⟩ := hdone 8 _ (by omega) rfl
 have g7 := g7 _ rfl
 have g8 := g8 _ rfl
 rw [hT] at h7 h8
 obtain rfl : v7 = _ := h7
 obtain ⟨g, rfl, hgb, hB⟩ := h8
 have hA := arr_range a.tmps 33 hsz
 change a.tmps = #[a.tmps[0]?.getD undef, a.tmps[1]?.getD undef, a.tmps[2]?.getD undef, a.tmps[3]?.getD undef, a.tmps[4]?.getD undef, a.tmps[5]?.getD undef, a.tmps[6]?.getD undef, a.tmps[7]?.getD undef, a.tmps[8]?.getD undef, a.tmps[9]?.getD undef, a.tmps[10]?.getD undef, a.tmps[11]?.getD undef, a.tmps[12]?.getD undef, a.tmps[13]?.getD undef, a.tmps[14]?.getD undef, a.tmps[15]?.getD undef, a.tmps[16]?.getD undef, a.tmps[17]?.getD undef, a.tmps[18]?.getD undef, a.tmps[19]?.getD undef, a.tmps[20]?.getD undef, a.tmps[21]?.getD undef, a.tmps[22]?.getD undef, a.tmps[23]?.getD undef, a.tmps[24]?.getD undef, a.tmps[25]?.getD undef, a.tmps[26]?.getD undef, a.tmps[27]?.getD undef, a.tmps[28]?.getD undef, a.tmps[29]?.getD undef, a.tmps[30]?.getD undef, a.tmps[31]?.getD undef, a.tmps[32]?.getD undef] at hA
 have e0 := hout 0 oc
 have e1 := hout 1 oc
 have e2 := hout 2 oc
 have e3 := hout 3 oc
 have e4 := hout 4 oc
 have e5 := hout 5 oc
 have e6 := hout 6 oc
 have e7 := hout 7 oc
 have e8 := hout 8 oc
 have e10 := hout 10 oc
 have e11 := hout 11 oc
 have e12 := hout 12 oc
 have e13 := hout 13 oc
 have e14 := hout 14 oc
 have e15 := hout 15 oc
 have e16 := hout 16 oc
 have e17 := hout 17 oc
 have e18 := hout 18 oc
 have e27 := hout 27 oc
 have e28 := hout 28 oc
 have e29 := hout 29 oc
 have e30 := hout 30 oc
 have e31 := hout 31 oc
 have e32 := hout 32 oc
 simp only [Array.getD_eq_getD_getElem?, List.getElem?_toArray, List.getElem?_cons_zero, List.getElem?_cons_succ, Option.getD_some] at e0 e1 e2 e3 e4 e5 e6 e7 e8 e10 e11 e12 e13 e14 e15 e16 e17 e18 e27 e28 e29 e30 e31 e32
 rw [e0, e1, e2, e3, e4, e5, e6, e7, e8, e10, e11, e12, e13, e14, e15, e16, e17, e18, e27, e28, e29, e30, e31, e32] at hA
 clear e0 e1 e2 e3 e4 e5 e6 e7 e8 e10 e11 e12 e13 e14 e15 e16 e17 e18 e27 e28 e29 e30 e31 e32 hout
 have hds2 : a.defers = [] := hdef
 have ea : a = ⟨a.tmps, a.defers⟩ := rfl
 obtain ⟨ds, hds⟩ : ∃ ds, ds = Lib.byteCells (sumL (kl ++ (numL n ++ numL (j : Int)))) := ⟨_, rfl⟩
 have hval : digV (sumL (kl ++ (numL n ++ numL (j : Int)))) = .agg ds.toArray := by rw [hds]; rfl
 have hdl : ds.length = 16 := by rw [hds]; rfl
 have HO := Lib.hid (show ds.toArray.all (·.oneCell') = true by rw [hds]; exact bytes_one _)
 have hi3 := Lib.hid (show (Try.prog.info? 36).map (·.size) = some ds.toArray.size by rw [sm_dsize]; simp [hdl])
 rw [hA, hds2] at ea
 have s8 : a.tmps[9]?.getD undef = .pointer (some ⟨g, 0, none⟩) := by simpa [Array.getD_eq_getD_getElem?] using g8
 have s7 : a.tmps[26]?.getD undef = digV (sumL (kl ++ (numL n ++ numL (j : Int)))) := by simpa [Array.getD_eq_getD_getElem?] using g7
 rw [s8, s7] at ea
 clear hA hds2 s8 s7 g7 g8 hdone hdef hT
 generalize a.tmps[19]?.getD undef = y19 at ea
 generalize a.tmps[20]?.getD undef = y20 at ea
 generalize a.tmps[21]?.getD undef = y21 at ea
 generalize a.tmps[22]?.getD undef = y22 at ea
 generalize a.tmps[23]?.getD undef = y23 at ea
 generalize a.tmps[24]?.getD undef = y24 at ea
 generalize a.tmps[25]?.getD undef = y25 at ea
 clear hsz
 subst ea
 unfold wpOp
 simp only [List.getElem?_toArray, List.getElem?_cons_zero, List.getElem?_cons_succ]
 rw [if_pos (by rfl)]
 left
 have TH : w2.there g 0 ds.toArray.size := by rw [show ds.toArray.size = 16 by simp [hdl]]; exact hB.there 16 rfl
 rw [hval]
 refine wp_store_mid 36 _ _ rfl g 0 ds.toArray rfl rfl TH hi3.out HO.out ?_
 have hDs := rowAll hB (by simp [hdl]; rfl : ds.toArray.size = zero16.size)
 have hB3 : Bk (w2.setCells g 0 ds.toArray.toList) g 36 ds.toArray := hDs
 have bx : Below wr.heap.size wr (w2.setCells g 0 ds.toArray.toList) := sm_below_setCells _ _ _ hgb hx
 have PI := bk_pt (w := w2.setCells g 0 ds.toArray.toList) (g := g) (t := 36) (l := sumL (kl ++ (numL n ++ numL (j : Int)))) (by rw [← hds]; exact hB3)
 have own3 : (w2.setCells g 0 ds.toArray.toList).ownsRow (w.heap.size + 1) 5 1 (.slice q.ad ln q.cap) ln (Lib.byteCells (strB kl n j)) := by
  have h := own_under own.out bx
  unfold ownU at h
  rw [HQV.out, strB_len, ← HLN.out] at h
  exact h
 have bw3 : Below w.heap.size w (w2.setCells g 0 ds.toArray.toList) := bw.trans (bx.mono (by omega))
 have HS := strB_succ kl n j
 have hz3 : w.heap.size + 1 ≤ (w2.setCells g 0 ds.toArray.toList).heap.size := by have := bx.size; omega
 have PI := Lib.hid PI
 have OW := Lib.hid own3
 have HS := Lib.hid HS
 have hrg3 : Hid ((w2.setCells g 0 ds.toArray.toList).rangeAt w.heap.size 0 cs) := Lib.hid (fun x v hv => (bx.cell (p := ⟨w.heap.size, 0 + x, none⟩) (by show w.heap.size < wr.heap.size; omega)).trans (hrg.out x v hv))
 clear own3 hB3 hDs hB TH hval hds hdl bx hgb hx own hrg
 generalize w2.setCells g 0 ds.toArray.toList = w3 at PI OW bw3 hz3 hrg3 ⊢
 have hln2 : ln + 16 ≤ 20000 := by omega
 go_wp2_with (at_builtin; refine sm_append rfl (.tmp 27) (.tmp 28) rfl (w.heap.size + 1) _ ln _ rfl OW.out (some ⟨g, 0, none⟩) 16 16 (sumL (kl ++ (numL n ++ numL (j : Int)))) rfl ?_ rfl ?_ ?_ ?_ ?_; (focus (intro h; cases h)); (focus (intro h; exact PI.out.cells (by rw [sumL_len]; omega))); (focus omega); (focus omega); intro v4 w4 hown4 hg4; have HO4 := Lib.hid hown4; have HG4 := Lib.hid hg4; clear hown4 hg4)
 have E1 : Hid (ownU w4 (w.heap.size + 1) v4 (strB kl n (j + 1))) := by
  have h := HO4.out
  rw [← byteCells_app, ← HS.out] at h
  unfold ownU
  rw [strB_len, Nat.mul_add, Nat.mul_one, ← HLN.out]
  exact Lib.hid h
 have bw4 : Below w.heap.size w w4 := bw3.grown HG4.out (by omega) (fun x hx => by have := (OW.out.lt x hx).1; omega)
 have hrg4 : Hid (w4.rangeAt w.heap.size 0 cs) := Lib.hid (fun x v hv => World.grownBy.cell HG4.out (hrg3.out x v hv) (own_far OW.out (by show w.heap.size < w.heap.size + 1; omega)))
 have hz4 : w.heap.size + 1 ≤ w4.heap.size := by have := HG4.out.size; omega
 clear HO4 HG4 OW PI hrg3
 go_roundw
 case rel => exact ⟨j + 1, by have := HLN.out; omega, by go_num, E1, hrg4, bw4, hz4⟩
 case measure => have := HLN.out; simp [intOf]; omega
end Go.Proofs.Ytopamplmpfndlaa.Sm
namespace Go.Proofs.Ytopamplmpfndlaa.Sm
open Go.RowKit
theorem strm_len (kl : List UInt8) (n : Int) (m : Nat) : (streamL kl n m).length = m := by
 unfold streamL; rw [List.length_take, strB_len]; omega
def hidL (Z b : List UInt8) : List UInt8 := (List.range Z.length).map fun i => Z.getD i 0 ^^^ b.getD i 0
def hidJ (Z b : List UInt8) (j : Nat) : List UInt8 := (List.range Z.length).map fun i => if i < j then Z.getD i 0 ^^^ b.getD i 0 else Z.getD i 0
theorem hidL_len (Z b : List UInt8) : (hidL Z b).length = Z.length := by simp [hidL]
theorem hidJ_len (Z b : List UInt8) (j : Nat) : (hidJ Z b j).length = Z.length := by simp [hidJ]
theorem hidJ_zero (Z b : List UInt8) : hidJ Z b 0 = Z := by
 apply List.ext_getElem (by simp [hidJ])
 intro i h1 h2
 simp [hidJ, List.getD, h2]
theorem hidJ_end (Z b : List UInt8) : hidJ Z b Z.length = hidL Z b := by
 apply List.ext_getElem (by simp [hidJ, hidL])
 intro i h1 h2
 have h3 : i < Z.length := by simpa [hidJ] using h1
 simp [hidJ, hidL, h3]
theorem hidJ_at (Z b : List UInt8) (j : Nat) (h : j < Z.length) : (hidJ Z b j).getD j 0 = Z.getD j 0 := by
 simp [hidJ, List.getD, h]
theorem hidJ_succ (Z b : List UInt8) (j : Nat) (h : j < Z.length) : (hidJ Z b j).set j (Z.getD j 0 ^^^ b.getD j 0) = hidJ Z b (j + 1) := by
 apply List.ext_getElem (by simp [hidJ])
 intro i h1 h2
 rw [List.getElem_set]
 by_cases e : j = i
 ·subst e; simp [hidJ]
 rw [if_neg e]
 simp only [hidJ, List.getElem_map, List.getElem_range]
 by_cases h3 : i < j
 ·rw [if_pos h3, if_pos (by omega)]
 rw [if_neg h3, if_neg (by omega)]
theorem xor_val (x y : UInt8) : bits .xor .u8 (x.toNat : Int) (y.toNat : Int) = ((x ^^^ y).toNat : Int) := by
 rw [u8_xor_nat _ _ x.toNat_lt y.toNat_lt, UInt8.toNat_xor]
theorem hidden_any (kl : List UInt8) (hk : kl.length = 16) (n : Int) (n0 : 0 ≤ n) (n1 : n < 18446744073709551616) (p : Pt) (w : World) (hp : p.In w w.heap.size) (hm : p.l.length ≤ 8192) :
  Calls Try.prog 119 #[digV kl, .int .u64 n, p.V] w (OwnPost (hidL (streamL kl n p.l.length) p.l) w) := by
 obtain ⟨cs, hcs⟩ : ∃ cs, cs = (Lib.byteCells kl).toArray := ⟨_, rfl⟩
 have hv : digV kl = .agg cs := by rw [hcs]; rfl
 have A1 : Hid (DB (w.alloc (.cells cs 36)) w.heap.size kl) := by rw [hcs]; exact Lib.hid (DB.new rfl hk)
 have bw : Below w.heap.size w (w.alloc (.cells cs 36)) := (Below.refl _ _).alloc (Nat.le_refl _) _
 have bz : w.heap.size + 1 ≤ (w.alloc (.cells cs 36)).heap.size := by simp
 obtain ⟨m, hm'⟩ : ∃ m, m = p.l.length := ⟨_, rfl⟩
 have HM := Lib.hid hm'
 rw [← hm'] at hm ⊢
 obtain ⟨Z, hZ⟩ : ∃ Z, Z = streamL kl n m := ⟨_, rfl⟩
 have ST := Lib.hid (fun W => by have h := stream_own kl hk n n0 n1 m hm W; rw [← hZ] at h; exact h)
 have HZ := Lib.hid (show Z.length = m by rw [hZ, strm_len])
 rw [← hZ]
 obtain ⟨pad, hpad⟩ : ∃ x, x = p.ad := ⟨_, rfl⟩
 have hpv : p.V = .slice pad m p.cap := by unfold Pt.V; rw [hm', hpad]
 have HPA := Lib.hid hpad
 have HP := Lib.hid hp
 rw [hv, hpv]
 clear hv hcs hm' hpad hpv hp hk hZ
 go_enter Try.func119, Try.ntmps119
 go_wp2_with ((with_reducible refine at_any ?_ ?_); (focus go_simp); (refine fun K hK => wp_ld _ _ kl rfl rfl A1.out (hK _ _ ?_)))
 obtain ⟨w1, hw1⟩ : ∃ w1, w1 = w.alloc (.cells cs 36) := ⟨_, rfl⟩
 rw [← hw1] at A1 bw bz ⊢
 clear hw1
 refine (ST.out _).mono ?_
 rintro e w2 ⟨v, rfl, own, hx⟩
 have bw2 : Below w.heap.size w w2 := bw.trans (hx.mono bw.size)
 have own := own_less own (show w.heap.size + 1 ≤ _ by omega)
 obtain ⟨q, rfl, hql, _⟩ := own_pt0 own
 have hqv : q.V = .slice q.ad m q.cap := by unfold Pt.V; rw [hql, HZ.out]
 rw [hqv] at own ⊢
 obtain ⟨ad, had⟩ : ∃ x, x = q.ad := ⟨_, rfl⟩
 obtain ⟨c, hc⟩ : ∃ x, x = q.cap := ⟨_, rfl⟩
 rw [← had, ← hc] at own ⊢
 have OW := Lib.hid own
 clear had hc hqv hql own A1 bw bz hx ST
 go_wp2_with fail
 go_loopw [16] (fun i wr => ∃ j : Nat, j ≤ m ∧ i = .int .i64 j ∧ Hid (ownU wr (w.heap.size + 1) (.slice ad m c) (hidJ Z p.l j)) ∧ Below w.heap.size w wr) (fun i _ => m - (intOf i).toNat)
 case atStart => exact ⟨0, by omega, rfl, by rw [hidJ_zero]; exact OW, bw2⟩
 clear OW bw2
 obtain ⟨j, hj, rfl, own, bwr⟩ := hrel
 by_cases hlt : j < m
 rotate_left
 ·obtain rfl : j = m := by omega
  go_wp2_with fail
  go_ret
  have k := own.out
  have e := hidJ_end Z p.l
  rw [HZ.out] at e
  rw [e] at k
  exact ⟨_, rfl, own_less k (Nat.le_succ _), bwr⟩
 obtain ⟨g, c', e, hBg, hg, hc'⟩ := own_slice own.out (by rw [hidJ_len, HZ.out]; omega)
 injection e with e1 e2 e3
 subst e3
 have E1 := Lib.hid e1
 have own1 := own.out
 rw [e1] at own1 ⊢
 obtain ⟨k1, f1⟩ := own_at own1 (by rw [hidJ_len, HZ.out]) j hlt
 rw [hidJ_at _ _ _ (by rw [HZ.out]; exact hlt)] at k1
 obtain ⟨a, o, e4, ha, hcells⟩ := (HP.out.keep bwr).read (by rw [← HM.out]; omega)
 have k2 := hcells j (by rw [← HM.out]; exact hlt)
 have E4 := Lib.hid (HPA.out.trans e4)
 rw [HPA.out, e4]
 have hcap : m ≤ p.cap := by rw [HM.out]; exact HP.out.cap
 have XV := Lib.hid (xor_val (Z.getD j 0) (p.l.getD j 0))
 have SU := Lib.hid (hidJ_succ Z p.l j (by rw [HZ.out]; exact hlt))
 obtain ⟨x, hxx⟩ : ∃ x, x = Z.getD j 0 := ⟨_, rfl⟩
 obtain ⟨y, hyy⟩ : ∃ y, y = p.l.getD j 0 := ⟨_, rfl⟩
 rw [← hxx] at k1
 rw [← hyy] at k2
 rw [← hxx, ← hyy] at XV SU
 clear hcells e1 e2 e4 ha hxx hyy own
 have OW := Lib.hid own1
 clear own1
 go_wp2_with fail
 go_region
 go_wp2_with fail
 refine ⟨⟨j + 1, by omega, by go_num, ?_, ?_⟩, by simp [intOf]; omega⟩
 ·rw [XV.out]
  have k := own_put OW.out (by rw [hidJ_len, HZ.out]) j (x ^^^ y)
  rw [SU.out] at k
  exact Lib.hid k
 exact (bwr.setCell (p := ⟨g, j, none⟩) (by show w.heap.size ≤ g; omega) _).drew
def markL (kl : List UInt8) (n : Int) (A t : List UInt8) : List UInt8 := (sumL (sumL (kl ++ kl) ++ (numL n ++ (numL (A.length : Int) ++ (A ++ t))))).take 8
theorem markL_len (kl : List UInt8) (n : Int) (A t : List UInt8) : (markL kl n A t).length = 8 := by
 unfold markL; rw [List.length_take, sumL_len]; rfl
theorem mark_any (kl : List UInt8) (hk : kl.length = 16) (n : Int) (n0 : 0 ≤ n) (n1 : n < 18446744073709551616) (p q : Pt) (w : World) (hp : p.In w w.heap.size) (hq : q.In w w.heap.size) (hpl : p.l.length ≤ 100000) (hql : q.l.length ≤ 100000) :
  Calls Try.prog 120 #[digV kl, .int .u64 n, p.V, q.V] w (PtPost (markL kl n p.l q.l) w) := by
 obtain ⟨cs, hcs⟩ : ∃ cs, cs = (Lib.byteCells kl).toArray := ⟨_, rfl⟩
 have hv : digV kl = .agg cs := by rw [hcs]; rfl
 have A1 : Hid (DB (w.alloc (.cells cs 36)) w.heap.size kl) := by rw [hcs]; exact Lib.hid (DB.new rfl hk)
 have bw : Below w.heap.size w (w.alloc (.cells cs 36)) := (Below.refl _ _).alloc (Nat.le_refl _) _
 have bz : w.heap.size + 1 ≤ (w.alloc (.cells cs 36)).heap.size := by simp
 obtain ⟨m, hm'⟩ : ∃ m, m = p.l.length := ⟨_, rfl⟩
 have NN := Lib.hid (numberP n n0 n1)
 have NM := Lib.hid (numberP (m : Int) (by omega) (by omega))
 have WM := Lib.hid (show IntKind.u64.wrap (m : Int) = m from by unfold IntKind.wrap; simp [IntKind.bits, IntKind.signed]; omega)
 obtain ⟨S2, hS2⟩ : ∃ S, S = sumL (kl ++ kl) := ⟨_, rfl⟩
 have HS2 := Lib.hid (show S2.length = 16 by rw [hS2]; exact sumL_len _)
 have TW := Lib.hid (fun W => by have h := two_any kl kl hk hk W; rw [← hS2] at h; exact h)
 obtain ⟨pv, hpv⟩ : ∃ v, v = p.V := ⟨_, rfl⟩
 have hpm : p.V = .slice p.ad m p.cap := by unfold Pt.V; rw [hm']
 have X0 : markL kl n p.l q.l = (sumL (S2 ++ (numL n ++ (numL (m : Int) ++ (p.l ++ q.l))))).take 8 := by unfold markL; rw [hS2, hm']
 obtain ⟨X, hX⟩ : ∃ X, X = sumL (S2 ++ (numL n ++ (numL (m : Int) ++ (p.l ++ q.l)))) := ⟨_, rfl⟩
 have HX := Lib.hid (show X.length = 16 by rw [hX]; exact sumL_len _)
 have XX := Lib.hid X0
 rw [← hX] at XX
 have KY := Lib.hid (fun (W : World) (r : Pt) (hr : r.l = numL n ++ (numL (m : Int) ++ (p.l ++ q.l))) (hi : r.In W W.heap.size) => show Calls Try.prog 71 #[digV S2, r.V] W fun e w' => e = .returned (digV X) ∧ Below W.heap.size W w' by
  have h := keyed_any S2 HS2.out r W hi (by rw [hr]; simp [numL]; omega)
  rw [hr, ← hX] at h
  exact h)
 have HP := Lib.hid hp
 have HQ := Lib.hid hq
 have HPM := Lib.hid hpm
 have HLM := Lib.hid (show p.l.length ≤ 100000 ∧ q.l.length ≤ 100000 from ⟨hpl, hql⟩)
 obtain ⟨mq, hmq⟩ : ∃ m, m = q.l.length := ⟨_, rfl⟩
 have hqv : q.V = .slice q.ad mq q.cap := by unfold Pt.V; rw [hmq]
 have HQV := Lib.hid hqv
 rw [hv, hpm, hqv]
 clear hv hcs hm' hpv pv hpm X0 hX hp hq hqv hmq hS2 hpl hql hk
 go_enter Try.func120, Try.ntmps120
 go_wp2_with fail
 obtain ⟨w1, hw1⟩ : ∃ w1, w1 = w.alloc (.cells cs 36) := ⟨_, rfl⟩
 rw [← hw1] at A1 bw bz ⊢
 clear hw1
 refine (NN.out _).mono ?_
 rintro e w2 ⟨p1, rfl, l1, i1, x1⟩
 have hv1 : p1.V = .slice p1.ad 8 p1.cap := by unfold Pt.V; rw [l1]; rfl
 rw [hv1]
 have HV1 := Lib.hid hv1
 have I1 := Lib.hid i1
 have L1 := Lib.hid l1
 clear hv1 i1 l1
 go_wp2_with fail
 rw [WM.out]
 refine (NM.out _).mono ?_
 rintro e w3 ⟨p2, rfl, l2, i2, x2⟩
 have xx : Ex w1 w3 := x1.trans x2
 have I1 := Lib.hid (I1.out.ext x2)
 have IP := Lib.hid ((HP.out.ext bw).ext xx)
 have IQ := Lib.hid ((HQ.out.ext bw).ext xx)
 have A2 := Lib.hid (A1.out.ext xx)
 have bw3 : Below w.heap.size w w3 := bw.trans (xx.mono bw.size)
 have bz3 := bw3.size
 have hv2 : p2.V = .slice p2.ad 8 p2.cap := by unfold Pt.V; rw [l2]; rfl
 rw [hv2]
 have HV2 := Lib.hid hv2
 obtain ⟨g, hg⟩ : ∃ g, g = w3.heap.size := ⟨_, rfl⟩
 have x3 : Ex w3 (w3.alloc (.cells #[.slice p1.ad 8 p1.cap, .slice p2.ad 8 p2.cap, .slice p.ad m p.cap, .slice q.ad mq q.cap] 23)) := (Below.refl _ _).alloc (Nat.le_refl _) _
 have BK := Bk.new (w := w3) rfl 23 #[.slice p1.ad 8 p1.cap, .slice p2.ad 8 p2.cap, .slice p.ad m p.cap, .slice q.ad mq q.cap]
 have CC := concat_any [p1, p2, p, q] w3.heap.size 4 (w3.alloc (.cells #[.slice p1.ad 8 p1.cap, .slice p2.ad 8 p2.cap, .slice p.ad m p.cap, .slice q.ad mq q.cap] 23)) BK.lt (by
  intro i r hr
  match i, hr with
  | 0, hr =>
   obtain rfl : p1 = r := by simpa using hr
   exact ⟨by rw [BK.cell, HV1.out]; rfl, I1.out.ext x3⟩
  | 1, hr =>
   obtain rfl : p2 = r := by simpa using hr
   exact ⟨by rw [BK.cell, HV2.out]; rfl, i2.ext x3⟩
  | 2, hr =>
   obtain rfl : p = r := by simpa using hr
   exact ⟨by rw [BK.cell, HPM.out]; rfl, IP.out.ext x3⟩
  | 3, hr =>
   obtain rfl : q = r := by simpa using hr
   exact ⟨by rw [BK.cell, HQV.out]; rfl, IQ.out.ext x3⟩
  | i + 4, hr => simp at hr) (by have := HLM.out; simp [flatL, L1.out, l2, numL]; omega) (by simp)
 have eL : flatL [p1, p2, p, q] 4 = numL n ++ (numL (m : Int) ++ (p.l ++ q.l)) := by simp [flatL, L1.out, l2]
 have CC : Hid (Calls Try.prog 76 #[.slice (some ⟨w3.heap.size, 0, none⟩) 4 4] (w3.alloc (.cells #[.slice p1.ad 8 p1.cap, .slice p2.ad 8 p2.cap, .slice p.ad m p.cap, .slice q.ad mq q.cap] 23)) (ConcatPost (numL n ++ (numL (m : Int) ++ (p.l ++ q.l))) (w3.alloc (.cells #[.slice p1.ad 8 p1.cap, .slice p2.ad 8 p2.cap, .slice p.ad m p.cap, .slice q.ad mq q.cap] 23)))) := by rw [← eL]; exact Lib.hid CC
 have A3 := Lib.hid (A2.out.ext x3)
 have bw4 : Below w.heap.size w (w3.alloc (.cells #[.slice p1.ad 8 p1.cap, .slice p2.ad 8 p2.cap, .slice p.ad m p.cap, .slice q.ad mq q.cap] 23)) := bw3.trans (x3.mono bz3)
 have bz4 := bw4.size
 clear I1 IP IQ A1 A2 x1 x2 xx x3 i2 l2 L1 BK eL NN NM hv2 bw3 bw bz HV1 HV2
 go_wp2_with fail
 refine CC.out.mono ?_
 rintro e w5 ⟨v, rfl, own, x5⟩
 obtain ⟨r, rfl, rl, ri⟩ := own_pt0 own
 obtain ⟨rv, hrv⟩ : ∃ x, x = r.V := ⟨_, rfl⟩
 rw [← hrv]
 have RV := Lib.hid hrv
 have A4 := Lib.hid (A3.out.ext x5)
 have bw5 : Below w.heap.size w w5 := bw4.trans (x5.mono bz4)
 have RL := Lib.hid rl
 have RI := Lib.hid ri
 clear CC A3 x5 own rl ri hrv bw4 bz4
 go_wp2_with ((with_reducible refine at_any ?_ ?_); (focus go_simp); (refine fun K hK => wp_ld _ _ kl rfl rfl A4.out (hK _ _ ?_)))
 refine (TW.out _).mono ?_
 rintro e w6 ⟨rfl, x6⟩
 have RI := Lib.hid (RI.out.ext x6)
 have bw6 : Below w.heap.size w w6 := bw5.trans (x6.mono bw5.size)
 have K2 := KY.out w6 r RL.out RI.out
 rw [← RV.out] at K2
 have K2 := Lib.hid K2
 clear A4 bw5 x6 TW RI RL KY
 go_wp2_with fail
 refine K2.out.mono ?_
 rintro e w7 ⟨rfl, x7⟩
 have bw7 : Below w.heap.size w w7 := bw6.trans (x7.mono bw6.size)
 have x8 : Ex w7 (w7.alloc (.cells zero16 36)) := (Below.refl _ _).alloc (Nat.le_refl _) _
 have bw8 : Below w.heap.size w (w7.alloc (.cells zero16 36)) := bw7.trans (x8.mono bw7.size)
 have bz7 := bw7.size
 clear K2 x7 x8 bw6 bw7
 go_wp2_with ((with_reducible refine at_any ?_ ?_); (focus go_simp); (refine fun K hK => wp_st _ _ w7.heap.size X rfl rfl rfl HX.out (Bk.new rfl _ _) rfl (fun w8 hd ho => hK _ _ ?_)))
 go_ret
 have hp8 := hd.pt
 have bw9 := ho.below _ bz7 _ bw8
 have hl8 : (X.take 8).length = 8 := by rw [List.length_take, HX.out]; rfl
 refine ⟨⟨some ⟨w7.heap.size, 0, none⟩, 16, X.take 8⟩, ?_, XX.out.symm, ?_, bw9⟩
 ·unfold Pt.V; simp only [hl8]; rfl
 refine ⟨by simp only [hl8]; omega, (fun h => by cases h), fun _ => ⟨w7.heap.size, 0, rfl, hd.lt, fun i hi => ?_⟩⟩
 simp only [hl8] at hi
 obtain ⟨a, o, e, _, hcc⟩ := hp8.read (by show 0 < X.length; rw [HX.out]; omega)
 obtain ⟨rfl, rfl⟩ : w7.heap.size = a ∧ 0 = o := by injection e with e; injection e with e1 e2; exact ⟨e1, e2⟩
 rw [hcc i (by show i < X.length; rw [HX.out]; omega)]
 simp [List.getD, List.getElem?_take, hi]
end Go.Proofs.Ytopamplmpfndlaa.Sm
