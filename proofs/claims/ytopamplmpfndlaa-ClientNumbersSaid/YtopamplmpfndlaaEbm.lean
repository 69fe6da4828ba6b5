/- Cn, Co, Vg, Vh, Vi -/
import Derived.Test.YtopamplmpfndlaaEbc
import Derived.Test.YtopamplmpfndlaaEbe
import Derived.Test.YtopamplmpfndlaaEbk
import Derived.Test.YtopamplmpfndlaaEbl
set_option maxRecDepth 100000
set_option maxHeartbeats 16000000
namespace Go.Proofs.Ytopamplmpfndlaa.Cl
open Go.RowKit
structure Wt where
 op : Int
 id : List UInt8
 pin : ByteArray
 sec : Pt
 lim : Int
 own : ByteArray
def Wt.C (x : Wt) : List Value := [.int .i64 x.op] ++ Lib.byteCells x.id ++ [.string x.pin, x.sec.V, .int .i64 x.lim, .string x.own]
def Wt.V (x : Wt) : Value := .agg x.C.toArray
structure Wt.Ok (x : Wt) : Prop where
 op0 : -9223372036854775808 ≤ x.op
 op1 : x.op ≤ 9223372036854775807
 idN : x.id.length = 4
 lim0 : -9223372036854775808 ≤ x.lim
 lim1 : x.lim ≤ 9223372036854775807
 pinN : x.pin.size ≤ 140737488351232
 ownN : x.own.size ≤ 140737488351232
 secN : x.sec.l.length ≤ 140737488355328
theorem Wt.len {x : Wt} (ok : x.Ok) : x.C.length = 9 := by
 unfold Wt.C
 simp only [List.length_append, List.length_cons, List.length_nil, byteCells_len, ok.idN]
theorem Wt.id_at {x : Wt} (ok : x.Ok) : (x.C.drop 1).take (Lib.byteCells x.id).length = Lib.byteCells x.id := by
 unfold Wt.C
 simp
structure Wc where
 op : Int
 id : List UInt8
 pin : ByteArray
 sec : List UInt8
 lim : Int
 own : ByteArray
def Wt.ct (x : Wt) : Wc := ⟨x.op, x.id, x.pin, x.sec.l, x.lim, x.own⟩
structure WI (w : World) (x : Wt) : Prop where
 ok : x.Ok
 sec : x.sec.In w w.heap.size
theorem WI.ext {w w' : World} {x : Wt} (h : WI w x) (k : Ex w w') : WI w' x := ⟨h.ok, h.sec.ext k⟩
def WB (w : World) (g : Nat) (x : Wt) : Prop := x.Ok ∧ Bk w g 31 x.C.toArray
theorem WB.ext {w w' : World} {g : Nat} {x : Wt} (h : WB w g x) (k : Ex w w') : WB w' g x := ⟨h.1, h.2.ext k⟩
theorem WB.cells {w : World} {g : Nat} {x : Wt} (h : WB w g x) : w.cell? ⟨g, 0, none⟩ = some (.int .i64 x.op) ∧ w.cell? ⟨g, 5, none⟩ = some (.string x.pin) ∧ w.cell? ⟨g, 6, none⟩ = some x.sec.V ∧ w.cell? ⟨g, 7, none⟩ = some (.int .i64 x.lim) ∧ w.cell? ⟨g, 8, none⟩ = some (.string x.own) := by
 obtain ⟨a, b, c, d, e⟩ := len4 h.1.idN
 obtain ⟨_, _⟩ := h
 rename_i hb
 refine ⟨?_, ?_, ?_, ?_, ?_⟩ <;> (rw [hb.cell]; unfold Wt.C; rw [e]; rfl)
section
variable {o : Oper} {a : Act} {w : World} {K : Act → World → Prop} {Q : Exit → Act → World → Prop}
theorem ld_wid (x : Operand) (g : Nat) (v : Wt) (ho : o.op = .load 26 x) (ha : a.eval x = .pointer (some ⟨g, 1, none⟩)) (h : WB w g v) (hk : K (a.put o.dst (digV v.id)) w) : o.wp Try.prog a w K Q := by
 obtain ⟨dd, hd⟩ : ∃ d, Try.prog.underlying 26 = some d ∧ d.isRow = true := ⟨_, Try.underlying26, rfl⟩
 exact wp_ldp (C := v.C) (Lib.byteCells v.id) x g 1 dd ho ha h.2 (Wt.id_at h.1) hd.1 hd.2 (by rw [Try.sizeId, byteCells_len, h.1.idN]) hk
theorem Try.sizeWt : (Try.prog.info? 31).map (·.size) = some 9 := by kernel_rfl
theorem ld_w (x : Operand) (g : Nat) (v : Wt) (ho : o.op = .load 31 x) (ha : a.eval x = .pointer (some ⟨g, 0, none⟩)) (h : WB w g v) (hk : K (a.put o.dst v.V) w) : o.wp Try.prog a w K Q := by
 obtain ⟨dd, hd⟩ : ∃ d, Try.prog.underlying 31 = some d ∧ d.isRow = true := ⟨_, Try.underlying31, rfl⟩
 exact wp_ldp (C := v.C) v.C x g 0 dd ho ha h.2 (by simp) hd.1 hd.2 (by rw [Try.sizeWt, Wt.len h.1]) hk
end
def zeroQt : Qt := ⟨0, z4, z16, nilB, 0, z16, z16, 0, 0⟩
theorem zeroQt_ok : zeroQt.Ok := ⟨by decide, by decide, rfl, rfl, by decide, by decide, rfl, rfl, by decide, by decide, by decide, by decide⟩
theorem built_zreq : Try.prog.built 47 [] = some zeroQt.C.toArray := by kernel_rfl
theorem built_req (op : Int) (id k : List UInt8) (n m : Int) (hi : id.length = 4) (hk : k.length = 16) : Try.prog.built 47 [(0, .int .i64 op), (1, digV id), (6, digV k), (7, .int .i64 n), (8, .int .u64 m)] = some (Qt.mk op id z16 nilB 0 z16 k n m).C.toArray := by
 obtain ⟨a, b, c, d, rfl⟩ := len4 hi
 obtain ⟨_, _, _, _, _, _, _, _, _, _, _, _, _, _, _, _, rfl⟩ := len16 hk
 kernel_rfl
theorem built_req4 (op : Int) (id : List UInt8) (n m : Int) (hi : id.length = 4) : Try.prog.built 47 [(0, .int .i64 op), (1, digV id), (7, .int .i64 n), (8, .int .u64 m)] = some (Qt.mk op id z16 nilB 0 z16 z16 n m).C.toArray := by
 obtain ⟨a, b, c, d, rfl⟩ := len4 hi
 kernel_rfl
def reqF (n num : Int) (k : List UInt8) (W : Wc) : Qc × Int :=
 if (W.op = 1 ∨ W.op = 2 ∨ W.op = 3) ∧ Sm.nrm (Sm.signs W.pin) = none then (zeroQt.ct, 23)
 else
  let q : Qc := ⟨W.op, W.id, if W.op = 1 ∨ W.op = 2 ∨ W.op = 3 then Sm.pinL W.pin W.id else z16, if W.op = 1 ∨ W.op = 3 then W.sec else [], if W.op = 1 ∨ W.op = 3 then W.lim else 0, if W.op = 1 ∨ W.op = 3 ∨ W.op = 4 then Sm.sumL W.own.data.toList else z16, keyL n num k, n, num⟩
  if q.right = true then (q, 0) else (zeroQt.ct, 1)
def ReqPost (c : Qc) (E : Int) (w : World) (e : Ending) (w' : World) : Prop := ∃ y : Qt, e = .returned (.tuple #[y.V, .int .i64 E]) ∧ (y.Ok ∧ PN w' 0 y.sec) ∧ y.ct = c ∧ Ex w w'
theorem pin9_any (s : ByteArray) (I : List UInt8) (hI : I.length = 4) (w : World) :
  Calls Try.prog 67 #[.string s, digV I] w fun e w' => e = .returned (.tuple #[digV (Sm.pinL s I), .int .i64 (Sm.pinE s)]) ∧ Ex w w' := Sm.pin_any s I hI w
theorem pinL_len (s : ByteArray) (I : List UInt8) : (Sm.pinL s I).length = 16 := by
 unfold Sm.pinL
 split
 ·rfl
 exact Sm.digsL_len _ _ _
theorem sum9_any (p : Pt) (w : World) (h : p.In w w.heap.size) (hm : p.l.length < 140737488351233) :
  Calls Try.prog 69 #[p.V] w fun e w' => e = .returned (digV (Sm.sumL p.l)) ∧ Ex w w' := Sm.sum_pt (toSm p) w (in_sm h) hm
theorem rsum9_any (p : Pt) (w : World) (h : p.In w w.heap.size) (hm : p.l.length < 140737488351233) :
  Calls Try.prog 70 #[p.V] w fun e w' => e = .returned (digV (Sm.sumL p.l)) ∧ Ex w w' := Sm.rsum_pt (toSm p) w (in_sm h) hm
theorem wp_cvs9 {o : Oper} {a : Act} {w : World} {K : Act → World → Prop} {Q : Exit → Act → World → Prop} (x : Operand) (s : ByteArray) (ho : o.op = .convert 9 23 x) (ha : a.eval x = .string s) (hk : ∀ (p : Pt) w', p.l = s.data.toList → p.In w' w'.heap.size → Ex w w' → K (a.put o.dst p.V) w') : o.wp Try.prog a w K Q :=
 Sm.wp_cvs x s ho ha (fun p w' h1 h2 h3 => hk (ofSm p) w' h1 (ofSm_in h2) h3)
theorem nilPN {w : World} {g : Nat} {y : Qt} (_ : QB w g y) (h : y.sec = nilB) : PN w 0 y.sec := by rw [h]; exact nilB_pn _ _
def isCv : Op → Bool
 | .convert s d _ => s == 9 && d == 23
 | _ => false
theorem so7 (S : List Nat) {P : Program} {ops : Array Oper} {rest : List Oper} {a : Act} {w : World} {Q : Exit → Act → World → Prop} {o : Oper} (h : (big o.op || bld o.op || beq o.op || isApp o.op || isCv o.op || sx S o.op) = true) (k : Stop (wpList P ops Q (o :: rest) a w)) : wpList P ops Q (o :: rest) a w := k.go
theorem s7a {P : Program} {ops : Array Oper} {rest : List Oper} {a : Act} {w : World} {Q : Exit → Act → World → Prop} {o : Oper} (h : (big o.op || bld o.op || beq o.op || isApp o.op || isCv o.op || sx [1000 + 3, 1000 + 23] o.op) = true) (k : Stop (wpList P ops Q (o :: rest) a w)) : wpList P ops Q (o :: rest) a w := k.go
theorem s7b {P : Program} {ops : Array Oper} {rest : List Oper} {a : Act} {w : World} {Q : Exit → Act → World → Prop} {o : Oper} (h : (big o.op || bld o.op || beq o.op || isApp o.op || isCv o.op || sx [1000 + 4] o.op) = true) (k : Stop (wpList P ops Q (o :: rest) a w)) : wpList P ops Q (o :: rest) a w := k.go
theorem s7c {P : Program} {ops : Array Oper} {rest : List Oper} {a : Act} {w : World} {Q : Exit → Act → World → Prop} {o : Oper} (h : (big o.op || bld o.op || beq o.op || isApp o.op || isCv o.op || sx [31, 1000 + 31, 1000 + 4, 1000 + 3, 1000 + 27, 1000 + 23, 33, 1000 + 33] o.op) = true) (k : Stop (wpList P ops Q (o :: rest) a w)) : wpList P ops Q (o :: rest) a w := k.go
def q1 (x : Wt) (k : List UInt8) (n m : Int) : Qt := ⟨x.op, x.id, z16, nilB, 0, z16, k, n, m⟩
theorem q1_ok {x : Wt} {k : List UInt8} {n m : Int} (h : x.Ok) (hk : k.length = 16) (n0 : -9223372036854775808 ≤ n) (n1 : n ≤ 9223372036854775807) (m0 : 0 ≤ m) (m1 : m < 18446744073709551616) : (q1 x k n m).Ok := ⟨h.op0, h.op1, h.idN, rfl, zeroQt_ok.lim0, zeroQt_ok.lim1, rfl, hk, n0, n1, m0, m1⟩
theorem reqF_none {n num : Int} {k : List UInt8} {W : Wc} (h : W.op = 1 ∨ W.op = 2 ∨ W.op = 3) (hn : Sm.nrm (Sm.signs W.pin) = none) : reqF n num k W = (zeroQt.ct, 23) := by
 unfold reqF
 rw [if_pos ⟨h, hn⟩]
theorem reqF_1 {n num : Int} {k : List UInt8} {W : Wc} (h : W.op = 1) {pd : List UInt8} (hn : Sm.nrm (Sm.signs W.pin) = some pd) : reqF n num k W = if (Qc.mk W.op W.id (Sm.pinL W.pin W.id) W.sec W.lim (Sm.sumL W.own.data.toList) (keyL n num k) n num).right = true then (Qc.mk W.op W.id (Sm.pinL W.pin W.id) W.sec W.lim (Sm.sumL W.own.data.toList) (keyL n num k) n num, 0) else (zeroQt.ct, 1) := by
 unfold reqF
 rw [if_neg (by rw [hn]; simp)]
 simp [h]
theorem reqF_2 {n num : Int} {k : List UInt8} {W : Wc} (h : W.op = 2) {pd : List UInt8} (hn : Sm.nrm (Sm.signs W.pin) = some pd) : reqF n num k W = if (Qc.mk W.op W.id (Sm.pinL W.pin W.id) [] 0 z16 (keyL n num k) n num).right = true then (Qc.mk W.op W.id (Sm.pinL W.pin W.id) [] 0 z16 (keyL n num k) n num, 0) else (zeroQt.ct, 1) := by
 unfold reqF
 rw [if_neg (by rw [hn]; simp)]
 simp [h]
theorem reqF_3 {n num : Int} {k : List UInt8} {W : Wc} (h : W.op = 3) {pd : List UInt8} (hn : Sm.nrm (Sm.signs W.pin) = some pd) : reqF n num k W = if (Qc.mk W.op W.id (Sm.pinL W.pin W.id) W.sec W.lim (Sm.sumL W.own.data.toList) (keyL n num k) n num).right = true then (Qc.mk W.op W.id (Sm.pinL W.pin W.id) W.sec W.lim (Sm.sumL W.own.data.toList) (keyL n num k) n num, 0) else (zeroQt.ct, 1) := by
 unfold reqF
 rw [if_neg (by rw [hn]; simp)]
 simp [h]
theorem reqF_4 {n num : Int} {k : List UInt8} {W : Wc} (h : W.op = 4) : reqF n num k W = if (Qc.mk W.op W.id z16 [] 0 (Sm.sumL W.own.data.toList) (keyL n num k) n num).right = true then (Qc.mk W.op W.id z16 [] 0 (Sm.sumL W.own.data.toList) (keyL n num k) n num, 0) else (zeroQt.ct, 1) := by
 unfold reqF
 rw [if_neg (by rw [h]; simp)]
 simp [h]
theorem reqF_0 {n num : Int} {k : List UInt8} {W : Wc} (h : ¬ W.op = 1 ∧ ¬ W.op = 2 ∧ ¬ W.op = 3 ∧ ¬ W.op = 4) : reqF n num k W = if (Qc.mk W.op W.id z16 [] 0 z16 (keyL n num k) n num).right = true then (Qc.mk W.op W.id z16 [] 0 z16 (keyL n num k) n num, 0) else (zeroQt.ct, 1) := by
 unfold reqF
 rw [if_neg (fun e => by rcases e.1 with e | e | e; exact h.1 e; exact h.2.1 e; exact h.2.2.1 e)]
 simp [h.1, h.2.1, h.2.2.1, h.2.2.2]
end Go.Proofs.Ytopamplmpfndlaa.Cl
namespace Go.Proofs.Ytopamplmpfndlaa.Cl
open Go.RowKit
theorem creqst_any (n m : Int) (n0 : -9223372036854775808 ≤ n) (n1 : n ≤ 9223372036854775807) (m0 : 0 ≤ m) (m1 : m < 18446744073709551616) (kl : List UInt8) (hk : kl.length = 16) (x : Wt) (w : World) (hx : WI w x) : Calls Try.prog 55 #[.int .i64 n, .int .u64 m, digV kl, x.V] w (ReqPost (reqF n m kl x.ct).1 (reqF n m kl x.ct).2 w) := by
 obtain ⟨ds, hds⟩ : ∃ ds, ds = (Lib.byteCells kl).toArray := ⟨_, rfl⟩
 obtain ⟨es, hes⟩ : ∃ ds, ds = x.C.toArray := ⟨_, rfl⟩
 have D0 : Hid (Bk (((w.alloc (.cells ds 36)).alloc (.cells es 31)).alloc (.cells zeroQt.C.toArray 47)) w.heap.size 36 (Lib.byteCells kl).toArray) := Hi (by rw [← hds]; exact ((Bk.new rfl _ _).more _).more _)
 have V0 : Hid (WB (((w.alloc (.cells ds 36)).alloc (.cells es 31)).alloc (.cells zeroQt.C.toArray 47)) (w.heap.size + 1) x) := Hi ⟨hx.1, by rw [hes]; exact (Bk.new (by simp) _ _).more _⟩
 have R0 : Hid (QB (((w.alloc (.cells ds 36)).alloc (.cells es 31)).alloc (.cells zeroQt.C.toArray 47)) (w.heap.size + 1 + 1) zeroQt) := Hi ⟨zeroQt_ok, Bk.new (by simp) _ _⟩
 have BW : Hid (Ex w (((w.alloc (.cells ds 36)).alloc (.cells es 31)).alloc (.cells zeroQt.C.toArray 47))) := Hi (Ex.trans (Ex.trans (Ex.alloc _ _) (Ex.alloc _ _)) (Ex.alloc _ _))
 have HK := Hi hk
 have HX := Hi hx
 obtain ⟨RF, hRF⟩ : ∃ R, R = reqF n m kl x.ct := ⟨_, rfl⟩
 have HRF := Hi hRF
 rw [← hRF]
 rw [show (Calls Try.prog 55 #[.int .i64 n, .int .u64 m, digV kl, x.V] w) = (Calls Try.prog 55 #[.int .i64 n, .int .u64 m, .agg ds, .agg es] w) by rw [hds, hes]; rfl]
 obtain ⟨K9, hK9⟩ : ∃ L, L = keyL n m kl := ⟨_, rfl⟩
 have HKL := Hi hK9
 have HKN : Hid (K9.length = 16) := Hi (by rw [hK9]; exact keyL_len _ _ _)
 have B9 := Hi (And.intro (And.intro n0 n1) (And.intro m0 m1))
 clear hds hes hk hx hRF hK9 n0 n1 m0 m1
 go_enter Try.func55, Try.ntmps55
 go_wp2_with fail
 change Code.wp _ _ _ _ (((w.alloc (.cells ds 36)).alloc (.cells es 31)).alloc (.cells zeroQt.C.toArray 47))
 generalize (((w.alloc (.cells ds 36)).alloc (.cells es 31)).alloc (.cells zeroQt.C.toArray 47)) = wr at *
 obtain ⟨g, hg⟩ : ∃ i, i = w.heap.size := ⟨_, rfl⟩
 rw [← hg] at D0 V0 R0 ⊢
 have HG := Hi hg
 clear hg
 have HR9 := Hi R0.out.lt
 have hS0 : ∀ (listed : Array Bool) (f : Nat → Value), (∀ i, listed.getD i false = false) → (fun (listed : Array Bool) (f : Nat → Value) (W : World) => (listed.getD 12 false = false → Ex wr W ∧ (listed.getD 11 false = true → ∃ i, f 11 = .pointer (some ⟨i, 0, none⟩) ∧ wr.heap.size ≤ i ∧ Bk W i 47 zeroQt.C.toArray)) ∧ (listed.getD 12 false = true → ∃ i, f 11 = .pointer (some ⟨i, 0, none⟩) ∧ wr.heap.size ≤ i ∧ (fun W i => QB W i (q1 x K9 n m)) W i ∧ Ex wr W)) listed f wr.drew := fun listed f h0 => ⟨fun _ => ⟨ex_drewN wr 1, fun e => absurd e (by rw [h0]; decide)⟩, fun e => absurd e (by rw [h0]; decide)⟩
 obtain ⟨T, hT⟩ : ∃ T : List (Value → Prop), T = [(fun zz => zz = .pointer (some ⟨g + 1, 0, none⟩)), (fun zz => zz = .int .i64 x.op), (fun zz => zz = .pointer (some ⟨g + 1, 1, none⟩)), (fun zz => zz = digV x.id), (fun zz => zz = .int .i64 n), (fun zz => zz = .int .u64 m), (fun zz => zz = digV kl), (fun zz => zz = digV K9), (fun zz => zz = .int .i64 n), (fun zz => zz = .int .u64 m), (fun zz => zz = (q1 x K9 n m).V), (fun _ => True), (fun _ => True)] := ⟨_, rfl⟩
 refine wp_region_gen (JS T ([(12, 0), (12, 1), (12, 2), (12, 3), (12, 4), (12, 5), (12, 6), (12, 7), (12, 8), (12, 9), (12, 10), (12, 11)] : List (Nat × Nat)) (fun (listed : Array Bool) (f : Nat → Value) (W : World) => (listed.getD 12 false = false → Ex wr W ∧ (listed.getD 11 false = true → ∃ i, f 11 = .pointer (some ⟨i, 0, none⟩) ∧ wr.heap.size ≤ i ∧ Bk W i 47 zeroQt.C.toArray)) ∧ (listed.getD 12 false = true → ∃ i, f 11 = .pointer (some ⟨i, 0, none⟩) ∧ wr.heap.size ≤ i ∧ (fun W i => QB W i (q1 x K9 n m)) W i ∧ Ex wr W))) (by kernel_rfl) (by kernel_rfl) (by kernel_rfl) (fitB_spec (by kernel_rfl)) (fun listed f h => JS.start listed f h (hS0 listed f h)) ?_ ?_
 ·intro i o ho
  have hi : i < 13 := (Array.getElem?_eq_some_iff.1 ho).1
  have hi' : i = 0 ∨ i = 1 ∨ i = 2 ∨ i = 3 ∨ i = 4 ∨ i = 5 ∨ i = 6 ∨ i = 7 ∨ i = 8 ∨ i = 9 ∨ i = 10 ∨ i = 11 ∨ i = 12 := by omega
  clear hi
  rcases hi' with rfl | rfl | rfl | rfl | rfl | rfl | rfl | rfl | rfl | rfl | rfl | rfl | rfl
  all_goals (simp only [List.getElem?_toArray, List.getElem?_cons_zero, List.getElem?_cons_succ, Option.some.injEq] at ho; subst ho; intro listed f a w2 hJ hsz hls hun hdep hout hlat; first | (rw [if_pos (by rfl)]; intro K hK) | skip)
  ·have q7 := hout 7 ob
   have nl := unq hJ.ord 12 0 hun
   rw [gd9] at q7
   clear hsz hdep hout hlat
   go_simp
   exact hK _ _ (hJ.na hls hT ⟨fun _ => ⟨Ex.trans (hJ.st.1 nl).1 (Ex.refl _), fun e => by rw [gset (by decide)] at e; obtain ⟨i9, a9, b9, c9⟩ := (hJ.st.1 nl).2 e; exact ⟨i9, by rw [upd_ne _ _ (by decide)]; exact a9, b9, c9.ext (Ex.refl _)⟩⟩, fun e => absurd e (by rw [gset (by decide), nl]; decide)⟩)
  ·have q13 := hJ.is hT (hdep ⟨0, .data⟩ (by simp) rfl) rfl _ rfl _ rfl
   have nl := unq hJ.ord 12 1 hun
   rw [gd9] at q13
   have c6 := (V0.out.ext (hJ.st.1 nl).1).cells.1
   have HS9 := Hi hJ
   have HN9 := Hi nl
   clear hsz hdep hout hlat
   go_simp
   exact hK _ _ (hJ.nx hls hT rfl rfl ⟨fun _ => ⟨Ex.trans (hJ.st.1 nl).1 (Ex.refl _), fun e => by rw [gset (by decide)] at e; obtain ⟨i9, a9, b9, c9⟩ := (hJ.st.1 nl).2 e; exact ⟨i9, by rw [upd_ne _ _ (by decide)]; exact a9, b9, c9.ext (Ex.refl _)⟩⟩, fun e => absurd e (by rw [gset (by decide), nl]; decide)⟩ nh)
  ·have q7 := hout 7 ob
   have nl := unq hJ.ord 12 2 hun
   rw [gd9] at q7
   clear hsz hdep hout hlat
   go_simp
   exact hK _ _ (hJ.na hls hT ⟨fun _ => ⟨Ex.trans (hJ.st.1 nl).1 (Ex.refl _), fun e => by rw [gset (by decide)] at e; obtain ⟨i9, a9, b9, c9⟩ := (hJ.st.1 nl).2 e; exact ⟨i9, by rw [upd_ne _ _ (by decide)]; exact a9, b9, c9.ext (Ex.refl _)⟩⟩, fun e => absurd e (by rw [gset (by decide), nl]; decide)⟩)
  ·have q15 := hJ.is hT (hdep ⟨2, .data⟩ (by simp) rfl) rfl _ rfl _ rfl
   have nl := unq hJ.ord 12 3 hun
   exact ld_wid (.tmp 15) (g + 1) x rfl q15 (V0.out.ext (hJ.st.1 nl).1) (hK _ _ (hJ.nx hls hT rfl rfl ⟨fun _ => ⟨Ex.trans (hJ.st.1 nl).1 (Ex.refl _), fun e => by rw [gset (by decide)] at e; obtain ⟨i9, a9, b9, c9⟩ := (hJ.st.1 nl).2 e; exact ⟨i9, by rw [upd_ne _ _ (by decide)]; exact a9, b9, c9.ext (Ex.refl _)⟩⟩, fun e => absurd e (by rw [gset (by decide), nl]; decide)⟩ nh))
  ·have q0 := hout 0 ob
   have nl := unq hJ.ord 12 4 hun
   exact wp_mw _ rfl q0 (hK _ _ (hJ.nx hls hT rfl rfl ⟨fun _ => ⟨Ex.trans (hJ.st.1 nl).1 (Ex.refl _), fun e => by rw [gset (by decide)] at e; obtain ⟨i9, a9, b9, c9⟩ := (hJ.st.1 nl).2 e; exact ⟨i9, by rw [upd_ne _ _ (by decide)]; exact a9, b9, c9.ext (Ex.refl _)⟩⟩, fun e => absurd e (by rw [gset (by decide), nl]; decide)⟩ nh))
  ·have q1 := hout 1 ob
   have nl := unq hJ.ord 12 5 hun
   exact wp_mw _ rfl q1 (hK _ _ (hJ.nx hls hT rfl rfl ⟨fun _ => ⟨Ex.trans (hJ.st.1 nl).1 (Ex.refl _), fun e => by rw [gset (by decide)] at e; obtain ⟨i9, a9, b9, c9⟩ := (hJ.st.1 nl).2 e; exact ⟨i9, by rw [upd_ne _ _ (by decide)]; exact a9, b9, c9.ext (Ex.refl _)⟩⟩, fun e => absurd e (by rw [gset (by decide), nl]; decide)⟩ nh))
  ·have q6 := hout 6 ob
   have nl := unq hJ.ord 12 6 hun
   exact ld_dgb (.tmp 6) g kl rfl q6 HK.out (D0.out.ext (hJ.st.1 nl).1) (hK _ _ (hJ.nx hls hT rfl rfl ⟨fun _ => ⟨Ex.trans (hJ.st.1 nl).1 (Ex.refl _), fun e => by rw [gset (by decide)] at e; obtain ⟨i9, a9, b9, c9⟩ := (hJ.st.1 nl).2 e; exact ⟨i9, by rw [upd_ne _ _ (by decide)]; exact a9, b9, c9.ext (Ex.refl _)⟩⟩, fun e => absurd e (by rw [gset (by decide), nl]; decide)⟩ nh))
  ·have q17 := hJ.is hT (hdep ⟨4, .data⟩ (by simp) rfl) rfl _ rfl _ rfl
   have q18 := hJ.is hT (hdep ⟨5, .data⟩ (by simp) rfl) rfl _ rfl _ rfl
   have q19 := hJ.is hT (hdep ⟨6, .data⟩ (by simp) rfl) rfl _ rfl _ rfl
   have nl := unq hJ.ord 12 7 hun
   rw [gd9] at q17
   rw [gd9] at q18
   rw [gd9] at q19
   clear hsz hdep hout hlat
   go_simp
   refine (key_any n m B9.out.2.1 B9.out.2.2 kl HK.out w2).mono ?_
   rintro e w3 ⟨rfl, x3⟩
   rw [← HKL.out]
   exact hK _ _ (hJ.nx hls hT rfl rfl ⟨fun _ => ⟨Ex.trans (hJ.st.1 nl).1 x3, fun e => by rw [gset (by decide)] at e; obtain ⟨i9, a9, b9, c9⟩ := (hJ.st.1 nl).2 e; exact ⟨i9, by rw [upd_ne _ _ (by decide)]; exact a9, b9, c9.ext x3⟩⟩, fun e => absurd e (by rw [gset (by decide), nl]; decide)⟩ nh)
  ·have q0 := hout 0 ob
   have nl := unq hJ.ord 12 8 hun
   exact wp_mw _ rfl q0 (hK _ _ (hJ.nx hls hT rfl rfl ⟨fun _ => ⟨Ex.trans (hJ.st.1 nl).1 (Ex.refl _), fun e => by rw [gset (by decide)] at e; obtain ⟨i9, a9, b9, c9⟩ := (hJ.st.1 nl).2 e; exact ⟨i9, by rw [upd_ne _ _ (by decide)]; exact a9, b9, c9.ext (Ex.refl _)⟩⟩, fun e => absurd e (by rw [gset (by decide), nl]; decide)⟩ nh))
  ·have q1 := hout 1 ob
   have nl := unq hJ.ord 12 9 hun
   exact wp_mw _ rfl q1 (hK _ _ (hJ.nx hls hT rfl rfl ⟨fun _ => ⟨Ex.trans (hJ.st.1 nl).1 (Ex.refl _), fun e => by rw [gset (by decide)] at e; obtain ⟨i9, a9, b9, c9⟩ := (hJ.st.1 nl).2 e; exact ⟨i9, by rw [upd_ne _ _ (by decide)]; exact a9, b9, c9.ext (Ex.refl _)⟩⟩, fun e => absurd e (by rw [gset (by decide), nl]; decide)⟩ nh))
  ·have q14 := hJ.is hT (hdep ⟨1, .data⟩ (by simp) rfl) rfl _ rfl _ rfl
   have q16 := hJ.is hT (hdep ⟨3, .data⟩ (by simp) rfl) rfl _ rfl _ rfl
   have q20 := hJ.is hT (hdep ⟨7, .data⟩ (by simp) rfl) rfl _ rfl _ rfl
   have q21 := hJ.is hT (hdep ⟨8, .data⟩ (by simp) rfl) rfl _ rfl _ rfl
   have q22 := hJ.is hT (hdep ⟨9, .data⟩ (by simp) rfl) rfl _ rfl _ rfl
   have nl := unq hJ.ord 12 10 hun
   refine wp_build _ _ rfl (q1 x K9 n m).C.toArray ?_ (hK _ _ (hJ.nx hls hT rfl rfl ⟨fun _ => ⟨Ex.trans (hJ.st.1 nl).1 (Ex.refl _), fun e => by rw [gset (by decide)] at e; obtain ⟨i9, a9, b9, c9⟩ := (hJ.st.1 nl).2 e; exact ⟨i9, by rw [upd_ne _ _ (by decide)]; exact a9, b9, c9.ext (Ex.refl _)⟩⟩, fun e => absurd e (by rw [gset (by decide), nl]; decide)⟩ nh))
   show Try.prog.built 47 [(0, a.tmps.getD 14 undef), (1, a.tmps.getD 16 undef), (6, a.tmps.getD 20 undef), (7, a.tmps.getD 21 undef), (8, a.tmps.getD 22 undef)] = _
   rw [q14, q16, q20, q21, q22]
   exact built_req x.op x.id K9 n m HX.out.1.idN HKN.out
  ·have nl := unq hJ.ord 12 11 hun
   clear hsz hdep hout hlat
   go_simp
   exact hK _ _ (hJ.nx hls hT rfl (by exact trivial) ⟨fun _ => ⟨Ex.trans (hJ.st.1 nl).1 (Ex.alloc _ _), fun _ => ⟨w2.heap.size, by rw [upd_same], (hJ.st.1 nl).1.size, Bk.new rfl _ _⟩⟩, fun e => absurd e (by rw [gset (by decide), nl]; decide)⟩ nh)
  have dd10 := hdep ⟨11, .data⟩ (by simp) rfl
  have q10 := dd10.2 _ rfl _ rfl
  have q23 := hJ.is hT (hdep ⟨10, .data⟩ (by simp) rfl) rfl _ rfl _ rfl
  have hl0 := (hdep ⟨0, .phase⟩ (by simp) rfl).1
  have hl1 := (hdep ⟨1, .phase⟩ (by simp) rfl).1
  have hl2 := (hdep ⟨2, .phase⟩ (by simp) rfl).1
  have hl3 := (hdep ⟨3, .phase⟩ (by simp) rfl).1
  have hl4 := (hdep ⟨4, .phase⟩ (by simp) rfl).1
  have hl5 := (hdep ⟨5, .phase⟩ (by simp) rfl).1
  have hl6 := (hdep ⟨6, .phase⟩ (by simp) rfl).1
  have hl7 := (hdep ⟨7, .chain⟩ (by simp) rfl).1
  have hl8 := (hdep ⟨8, .phase⟩ (by simp) rfl).1
  have hl9 := (hdep ⟨9, .phase⟩ (by simp) rfl).1
  have hl10 := (hdep ⟨10, .data⟩ (by simp) rfl).1
  have hl11 := (hdep ⟨11, .data⟩ (by simp) rfl).1
  have hord : ∀ x ∈ ([(12, 0), (12, 1), (12, 2), (12, 3), (12, 4), (12, 5), (12, 6), (12, 7), (12, 8), (12, 9), (12, 10), (12, 11)] : List (Nat × Nat)), x.1 = 12 → listed.getD x.2 false = true := (by intro x hx he; simp only [List.mem_cons, List.not_mem_nil, or_false] at hx; rcases hx with rfl | rfl | rfl | rfl | rfl | rfl | rfl | rfl | rfl | rfl | rfl | rfl; all_goals first | (exact absurd he (by decide)) | assumption)
  obtain ⟨i9, a9, b9, c9⟩ := (hJ.st.1 hun).2 (hdep ⟨11, .data⟩ (by simp) rfl).1
  rw [a9] at q10
  refine st_q (.tmp 10) (.tmp 23) i9 (q1 x K9 n m) rfl q10 q23 (q1_ok HX.out.1 HKN.out B9.out.1.1 B9.out.1.2 B9.out.2.1 B9.out.2.2) c9 (by rw [List.size_toArray, Qt.len zeroQt_ok]) (fun w9 hd ho => ?_)
  exact hK _ _ (hJ.nx hls hT rfl (by exact trivial) ⟨fun e => (by rw [set_new (by rw [hls]; decide)] at e; cases e), fun _ => ⟨i9, by rw [upd_ne _ _ (by decide)]; exact a9, b9, hd, (ho.below wr.heap.size b9 _ (hJ.st.1 hun).1)⟩⟩ hord)
 intro listed f w2 hall hJ
 have hst := hJ.st
 simp only [putAll, Act.put, List.setIfInBounds_toArray, List.set_cons_zero, List.set_cons_succ, Nat.zero_add, Nat.reduceAdd]
 obtain ⟨i9, a9, b9, c9, x9⟩ := hst.2 (hall 12 (by simp))
 clear hst hS0
 rw [a9]
 have P9 := Hi c9
 have LO := Hi b9
 clear c9 a9 b9
 clear hJ hall hT
 replace BW := Hi (Ex.trans BW.out x9)
 replace V0 := Hi (V0.out.ext x9)
 replace R0 := Hi (R0.out.ext x9)
 have Y := P9
 have LT : Hid (g + 1 + 1 < i9) := Hi (by have := R0.out.lt; have := LO.out; have h9 := HR9.out; omega)
 clear P9 x9
 obtain ⟨c0, c5, c6, c7, c8⟩ := V0.out.cells
 by_cases e1 : x.op = 1
 ·have OPE := Hi e1
  rw [e1] at c0
  clear e1
  go_wp2_with ((with_reducible refine s7a ?_ ?_); (focus rfl))
  refine at9 (by go_simp) fun K0 hK => ld_wid _ (g + 1) x rfl rfl V0.out (hK _ _ ?_)
  clear hK
  go_wp2_with ((with_reducible refine s7a ?_ ?_); (focus rfl))
  refine (pin9_any x.pin x.id HX.out.1.idN _).mono ?_
  rintro e w3 ⟨rfl, x3⟩
  replace BW := Hi (Ex.trans BW.out x3)
  replace V0 := Hi (V0.out.ext x3)
  replace R0 := Hi (R0.out.ext x3)
  replace Y := Hi (Y.out.ext x3)
  clear x3
  clear c0 c5 c6 c7 c8
  obtain ⟨c0, c5, c6, c7, c8⟩ := V0.out.cells
  try rw [OPE.out] at c0
  obtain ⟨PL, hPL⟩ : ∃ P, P = Sm.pinL x.pin x.id := ⟨_, rfl⟩
  have HPL : Hid (PL.length = 16) := Hi (by rw [hPL]; exact pinL_len _ _)
  rw [← hPL]
  have HPE := Hi hPL
  clear hPL
  cases hn : Sm.nrm (Sm.signs x.pin) with
  | none =>
   have hE : Sm.pinE x.pin = 23 := by unfold Sm.pinE; rw [hn]
   rw [hE]
   have HN := Hi hn
   clear hE hn
   go_wp2_with ((with_reducible refine s7a ?_ ?_); (focus rfl))
   refine at9 (by go_simp) fun K0 hK => st_dgb _ _ w3.heap.size z16 PL rfl rfl rfl rfl HPL.out (Bk.new rfl _ _) (fun w4 hd ho => hK _ _ ?_)
   clear hK
   have x4 : Ex w3 w4 := ho.below w3.heap.size (Nat.le_refl _) w3 (Ex.alloc w3 _)
   clear hd ho
   replace BW := Hi (Ex.trans BW.out x4)
   replace V0 := Hi (V0.out.ext x4)
   replace R0 := Hi (R0.out.ext x4)
   replace Y := Hi (Y.out.ext x4)
   clear x4
   clear c0 c5 c6 c7 c8
   obtain ⟨c0, c5, c6, c7, c8⟩ := V0.out.cells
   try rw [OPE.out] at c0
   go_wp2_with ((with_reducible refine s7a ?_ ?_); (focus rfl))
   refine at9 (by go_simp) fun K0 hK => wp_build _ _ rfl _ built_zreq (hK _ _ ?_)
   clear hK
   go_wp2_with ((with_reducible refine s7a ?_ ?_); (focus rfl))
   refine at9 (by go_simp) fun K0 hK => st_q _ _ (g + 1 + 1) zeroQt rfl rfl rfl zeroQt_ok R0.out.2 (by rw [List.size_toArray, Qt.len zeroQt_ok]) (fun w9 hd ho => hK _ _ ?_)
   clear hK
   replace BW := Hi (ho.below w.heap.size (by have := HG.out; have := LT.out; omega) _ BW.out)
   have YD := Hi hd
   clear hd ho
   go_wp2_with fail
   exact bodyPost_ret (res_q2 rfl _ _ (g + 1 + 1) rfl zeroQt YD.out) rfl ⟨zeroQt, by rw [HRF.out]; rw [reqF_none (Or.inl OPE.out) HN.out] <;> rfl, ⟨zeroQt_ok, nilB_pn _ _⟩, by rw [HRF.out]; rw [reqF_none (Or.inl OPE.out) HN.out] <;> rfl, BW.out⟩
  | some pd =>
   have hE : Sm.pinE x.pin = 0 := by unfold Sm.pinE; rw [hn]
   rw [hE]
   have HN := Hi hn
   clear hE hn
   go_wp2_with ((with_reducible refine s7a ?_ ?_); (focus rfl))
   refine at9 (by go_simp) fun K0 hK => st_dgb _ _ w3.heap.size z16 PL rfl rfl rfl rfl HPL.out (Bk.new rfl _ _) (fun w4 hd ho => hK _ _ ?_)
   clear hK
   have x4 : Ex w3 w4 := ho.below w3.heap.size (Nat.le_refl _) w3 (Ex.alloc w3 _)
   obtain ⟨i5, hi5⟩ : ∃ i, i = w3.heap.size := ⟨_, rfl⟩
   have LP : Hid (i9 < i5) := Hi (by have := Y.out.lt; omega)
   have PD := Hi hd
   rw [← hi5] at PD ⊢
   clear hd ho hi5
   replace BW := Hi (Ex.trans BW.out x4)
   replace V0 := Hi (V0.out.ext x4)
   replace R0 := Hi (R0.out.ext x4)
   replace Y := Hi (Y.out.ext x4)
   clear x4
   clear c0 c5 c6 c7 c8
   obtain ⟨c0, c5, c6, c7, c8⟩ := V0.out.cells
   try rw [OPE.out] at c0
   go_wp2_with ((with_reducible refine s7a ?_ ?_); (focus rfl))
   refine at9 (by go_simp) fun K0 hK => ld_dgb _ i5 PL rfl rfl HPL.out PD.out (hK _ _ ?_)
   clear hK
   go_wp2_with ((with_reducible refine s7a ?_ ?_); (focus rfl))
   refine at9 (by go_simp) fun K0 hK => st_qpin _ _ i9 _ PL rfl rfl rfl HPL.out Y.out (fun w5 hd ho => hK _ _ ?_)
   clear hK
   replace BW := Hi (ho.below w.heap.size (by have := HG.out; have := LT.out; omega) _ BW.out)
   replace V0 := Hi (show WB _ (g + 1) x from ⟨V0.out.1, ho.bk V0.out.2 (by have := LT.out; omega)⟩)
   replace R0 := Hi (ho.qb R0.out (by have := LT.out; omega))
   replace Y := Hi hd
   clear hd ho
   clear c0 c5 c6 c7 c8
   obtain ⟨c0, c5, c6, c7, c8⟩ := V0.out.cells
   try rw [OPE.out] at c0
   go_wp2_with ((with_reducible refine s7a ?_ ?_); (focus rfl))
   refine at9 (by go_simp) fun K0 hK => st_qlim (by kernel_rfl) _ _ i9 _ x.lim rfl rfl rfl HX.out.1.lim0 HX.out.1.lim1 Y.out (fun w5 hd ho => hK _ _ ?_)
   clear hK
   replace BW := Hi (ho.below w.heap.size (by have := HG.out; have := LT.out; omega) _ BW.out)
   replace V0 := Hi (show WB _ (g + 1) x from ⟨V0.out.1, ho.bk V0.out.2 (by have := LT.out; omega)⟩)
   replace R0 := Hi (ho.qb R0.out (by have := LT.out; omega))
   replace Y := Hi hd
   clear hd ho
   clear c0 c5 c6 c7 c8
   obtain ⟨c0, c5, c6, c7, c8⟩ := V0.out.cells
   try rw [OPE.out] at c0
   go_wp2_with ((with_reducible refine s7a ?_ ?_); (focus rfl))
   have SI := HX.out.2.ext BW.out
   refine (bclone_any x.sec HX.out.1.secN _ SI).mono ?_
   rintro e w3 ⟨sp, rfl, sl, sn, x3⟩
   have YL := Y.out.lt
   have SN := Hi (sn.less (Nat.le_refl _))
   have SL := Hi sl
   have YG := Hi YL
   clear sn sl SI YL
   replace BW := Hi (Ex.trans BW.out x3)
   replace V0 := Hi (V0.out.ext x3)
   replace R0 := Hi (R0.out.ext x3)
   replace Y := Hi (Y.out.ext x3)
   clear x3
   clear c0 c5 c6 c7 c8
   obtain ⟨c0, c5, c6, c7, c8⟩ := V0.out.cells
   try rw [OPE.out] at c0
   go_wp2_with ((with_reducible refine s7a ?_ ?_); (focus rfl))
   refine at9 (by go_simp) fun K0 hK => st_qsec (by kernel_rfl) _ _ i9 _ sp rfl rfl rfl Y.out (fun w5 hd ho => hK _ _ ?_)
   clear hK
   replace BW := Hi (ho.below w.heap.size (by have := HG.out; have := LT.out; omega) _ BW.out)
   replace V0 := Hi (show WB _ (g + 1) x from ⟨V0.out.1, ho.bk V0.out.2 (by have := LT.out; omega)⟩)
   replace R0 := Hi (ho.qb R0.out (by have := LT.out; omega))
   replace SN := Hi (SN.out.only ho YG.out)
   replace Y := Hi hd
   clear hd ho
   clear c0 c5 c6 c7 c8
   obtain ⟨c0, c5, c6, c7, c8⟩ := V0.out.cells
   try rw [OPE.out] at c0
   go_wp2_with ((with_reducible refine s7a ?_ ?_); (focus rfl))
   refine at9 (by go_simp) fun K0 hK => wp_cvs9 _ x.own rfl rfl (fun op w3 ol oi x3 => hK _ _ ?_)
   clear hK
   have OI := Hi oi
   have OL := Hi ol
   clear oi ol
   replace BW := Hi (Ex.trans BW.out x3)
   replace V0 := Hi (V0.out.ext x3)
   replace R0 := Hi (R0.out.ext x3)
   replace Y := Hi (Y.out.ext x3)
   replace SN := Hi (SN.out.ext x3)
   clear x3
   clear c0 c5 c6 c7 c8
   obtain ⟨c0, c5, c6, c7, c8⟩ := V0.out.cells
   try rw [OPE.out] at c0
   go_wp2_with ((with_reducible refine s7a ?_ ?_); (focus rfl))
   refine (sum9_any op _ OI.out (by rw [OL.out, Array.length_toList]; exact Nat.lt_succ_of_le HX.out.1.ownN)).mono ?_
   rintro e w3 ⟨rfl, x3⟩
   rw [OL.out]
   clear OI
   replace BW := Hi (Ex.trans BW.out x3)
   replace V0 := Hi (V0.out.ext x3)
   replace R0 := Hi (R0.out.ext x3)
   replace Y := Hi (Y.out.ext x3)
   replace SN := Hi (SN.out.ext x3)
   clear x3
   clear c0 c5 c6 c7 c8
   obtain ⟨c0, c5, c6, c7, c8⟩ := V0.out.cells
   try rw [OPE.out] at c0
   go_wp2_with ((with_reducible refine s7a ?_ ?_); (focus rfl))
   refine at9 (by go_simp) fun K0 hK => st_qown _ _ i9 _ (Sm.sumL x.own.data.toList) rfl rfl rfl (Sm.sumL_len _) Y.out (fun w5 hd ho => hK _ _ ?_)
   clear hK
   replace BW := Hi (ho.below w.heap.size (by have := HG.out; have := LT.out; omega) _ BW.out)
   replace V0 := Hi (show WB _ (g + 1) x from ⟨V0.out.1, ho.bk V0.out.2 (by have := LT.out; omega)⟩)
   replace R0 := Hi (ho.qb R0.out (by have := LT.out; omega))
   replace SN := Hi (SN.out.onlyT ho Y.out.2 (by decide))
   replace Y := Hi hd
   clear hd ho
   clear c0 c5 c6 c7 c8
   obtain ⟨c0, c5, c6, c7, c8⟩ := V0.out.cells
   try rw [OPE.out] at c0
   go_wp2_with ((with_reducible refine s7a ?_ ?_); (focus rfl))
   obtain ⟨y, hy⟩ : ∃ y : Qt, y = (Qt.mk x.op x.id PL sp x.lim (Sm.sumL x.own.data.toList) K9 n m) := ⟨_, rfl⟩
   replace Y : Hid (QB _ i9 y) := Hi (by rw [hy]; exact Y.out)
   have HC : Hid (reqF n m kl x.ct = if y.ct.right = true then (y.ct, 0) else (zeroQt.ct, 1)) := Hi (by rw [reqF_1 OPE.out HN.out, hy]; simp only [Qt.ct, Wt.ct, HPE.out, HKL.out, SL.out]; rfl)
   have YI : Hid (PN _ 0 y.sec) := Hi (by rw [hy]; exact SN.out.less (Nat.zero_le _))
   clear hy
   refine at9 (by go_simp) fun K0 hK => ld_q _ i9 y rfl rfl Y.out (hK _ _ ?_)
   clear hK
   go_wp2_with ((with_reducible refine s7a ?_ ?_); (focus rfl))
   refine (qright_any y _ ⟨Y.out.1, YI.out.1⟩).mono ?_
   rintro e w6 ⟨rfl, x6⟩
   obtain ⟨b, hb⟩ : ∃ b, b = y.ct.right := ⟨_, rfl⟩
   rw [← hb]
   rw [← hb] at HC
   clear hb
   replace YI := Hi (YI.out.ext x6)
   replace BW := Hi (Ex.trans BW.out x6)
   replace V0 := Hi (V0.out.ext x6)
   replace R0 := Hi (R0.out.ext x6)
   replace Y := Hi (Y.out.ext x6)
   clear x6
   clear c0 c5 c6 c7 c8
   obtain ⟨c0, c5, c6, c7, c8⟩ := V0.out.cells
   try rw [OPE.out] at c0
   cases b
   ·go_wp2_with ((with_reducible refine s7a ?_ ?_); (focus rfl))
    refine at9 (by go_simp) fun K0 hK => wp_build _ _ rfl _ built_zreq (hK _ _ ?_)
    clear hK
    go_wp2_with ((with_reducible refine s7a ?_ ?_); (focus rfl))
    refine at9 (by go_simp) fun K0 hK => st_q _ _ (g + 1 + 1) zeroQt rfl rfl rfl zeroQt_ok R0.out.2 (by rw [List.size_toArray, Qt.len zeroQt_ok]) (fun w9 hd ho => hK _ _ ?_)
    clear hK
    replace BW := Hi (ho.below w.heap.size (by have := HG.out; have := LT.out; omega) _ BW.out)
    have YD := Hi hd
    clear hd ho
    go_wp2_with fail
    exact bodyPost_ret (res_q2 rfl _ _ (g + 1 + 1) rfl zeroQt YD.out) rfl ⟨zeroQt, by rw [HRF.out]; rw [HC.out] <;> rfl, ⟨zeroQt_ok, nilB_pn _ _⟩, by rw [HRF.out]; rw [HC.out] <;> rfl, BW.out⟩
   ·go_wp2_with ((with_reducible refine s7a ?_ ?_); (focus rfl))
    refine at9 (by go_simp) fun K0 hK => ld_q _ i9 y rfl rfl Y.out (hK _ _ ?_)
    clear hK
    go_wp2_with ((with_reducible refine s7a ?_ ?_); (focus rfl))
    refine at9 (by go_simp) fun K0 hK => st_q _ _ (g + 1 + 1) y rfl rfl rfl Y.out.1 R0.out.2 (by rw [List.size_toArray, Qt.len zeroQt_ok]) (fun w9 hd ho => hK _ _ ?_)
    clear hK
    replace BW := Hi (ho.below w.heap.size (by have := HG.out; have := LT.out; omega) _ BW.out)
    have YD := Hi hd
    have YO := Hi Y.out.1
    have YF := Hi (YI.out.onlyT ho R0.out.2 (by decide))
    clear hd ho
    go_wp2_with fail
    exact bodyPost_ret (res_q2 rfl _ _ (g + 1 + 1) rfl y YD.out) rfl ⟨y, by rw [HRF.out, HC.out]; rfl, ⟨YO.out, YF.out⟩, by rw [HRF.out, HC.out]; rfl, BW.out⟩
 by_cases e2 : x.op = 2
 ·have OPE := Hi e2
  clear e1
  rw [e2] at c0
  clear e2
  go_wp2_with ((with_reducible refine s7a ?_ ?_); (focus rfl))
  refine at9 (by go_simp) fun K0 hK => ld_wid _ (g + 1) x rfl rfl V0.out (hK _ _ ?_)
  clear hK
  go_wp2_with ((with_reducible refine s7a ?_ ?_); (focus rfl))
  refine (pin9_any x.pin x.id HX.out.1.idN _).mono ?_
  rintro e w3 ⟨rfl, x3⟩
  replace BW := Hi (Ex.trans BW.out x3)
  replace V0 := Hi (V0.out.ext x3)
  replace R0 := Hi (R0.out.ext x3)
  replace Y := Hi (Y.out.ext x3)
  clear x3
  clear c0 c5 c6 c7 c8
  obtain ⟨c0, c5, c6, c7, c8⟩ := V0.out.cells
  try rw [OPE.out] at c0
  obtain ⟨PL, hPL⟩ : ∃ P, P = Sm.pinL x.pin x.id := ⟨_, rfl⟩
  have HPL : Hid (PL.length = 16) := Hi (by rw [hPL]; exact pinL_len _ _)
  rw [← hPL]
  have HPE := Hi hPL
  clear hPL
  cases hn : Sm.nrm (Sm.signs x.pin) with
  | none =>
   have hE : Sm.pinE x.pin = 23 := by unfold Sm.pinE; rw [hn]
   rw [hE]
   have HN := Hi hn
   clear hE hn
   go_wp2_with ((with_reducible refine s7a ?_ ?_); (focus rfl))
   refine at9 (by go_simp) fun K0 hK => st_dgb _ _ w3.heap.size z16 PL rfl rfl rfl rfl HPL.out (Bk.new rfl _ _) (fun w4 hd ho => hK _ _ ?_)
   clear hK
   have x4 : Ex w3 w4 := ho.below w3.heap.size (Nat.le_refl _) w3 (Ex.alloc w3 _)
   clear hd ho
   replace BW := Hi (Ex.trans BW.out x4)
   replace V0 := Hi (V0.out.ext x4)
   replace R0 := Hi (R0.out.ext x4)
   replace Y := Hi (Y.out.ext x4)
   clear x4
   clear c0 c5 c6 c7 c8
   obtain ⟨c0, c5, c6, c7, c8⟩ := V0.out.cells
   try rw [OPE.out] at c0
   go_wp2_with ((with_reducible refine s7a ?_ ?_); (focus rfl))
   refine at9 (by go_simp) fun K0 hK => wp_build _ _ rfl _ built_zreq (hK _ _ ?_)
   clear hK
   go_wp2_with ((with_reducible refine s7a ?_ ?_); (focus rfl))
   refine at9 (by go_simp) fun K0 hK => st_q _ _ (g + 1 + 1) zeroQt rfl rfl rfl zeroQt_ok R0.out.2 (by rw [List.size_toArray, Qt.len zeroQt_ok]) (fun w9 hd ho => hK _ _ ?_)
   clear hK
   replace BW := Hi (ho.below w.heap.size (by have := HG.out; have := LT.out; omega) _ BW.out)
   have YD := Hi hd
   clear hd ho
   go_wp2_with fail
   exact bodyPost_ret (res_q2 rfl _ _ (g + 1 + 1) rfl zeroQt YD.out) rfl ⟨zeroQt, by rw [HRF.out]; rw [reqF_none (Or.inr (Or.inl OPE.out)) HN.out] <;> rfl, ⟨zeroQt_ok, nilB_pn _ _⟩, by rw [HRF.out]; rw [reqF_none (Or.inr (Or.inl OPE.out)) HN.out] <;> rfl, BW.out⟩
  | some pd =>
   have hE : Sm.pinE x.pin = 0 := by unfold Sm.pinE; rw [hn]
   rw [hE]
   have HN := Hi hn
   clear hE hn
   go_wp2_with ((with_reducible refine s7a ?_ ?_); (focus rfl))
   refine at9 (by go_simp) fun K0 hK => st_dgb _ _ w3.heap.size z16 PL rfl rfl rfl rfl HPL.out (Bk.new rfl _ _) (fun w4 hd ho => hK _ _ ?_)
   clear hK
   have x4 : Ex w3 w4 := ho.below w3.heap.size (Nat.le_refl _) w3 (Ex.alloc w3 _)
   obtain ⟨i5, hi5⟩ : ∃ i, i = w3.heap.size := ⟨_, rfl⟩
   have LP : Hid (i9 < i5) := Hi (by have := Y.out.lt; omega)
   have PD := Hi hd
   rw [← hi5] at PD ⊢
   clear hd ho hi5
   replace BW := Hi (Ex.trans BW.out x4)
   replace V0 := Hi (V0.out.ext x4)
   replace R0 := Hi (R0.out.ext x4)
   replace Y := Hi (Y.out.ext x4)
   clear x4
   clear c0 c5 c6 c7 c8
   obtain ⟨c0, c5, c6, c7, c8⟩ := V0.out.cells
   try rw [OPE.out] at c0
   go_wp2_with ((with_reducible refine s7a ?_ ?_); (focus rfl))
   refine at9 (by go_simp) fun K0 hK => ld_dgb _ i5 PL rfl rfl HPL.out PD.out (hK _ _ ?_)
   clear hK
   go_wp2_with ((with_reducible refine s7a ?_ ?_); (focus rfl))
   refine at9 (by go_simp) fun K0 hK => st_qpin _ _ i9 _ PL rfl rfl rfl HPL.out Y.out (fun w5 hd ho => hK _ _ ?_)
   clear hK
   replace BW := Hi (ho.below w.heap.size (by have := HG.out; have := LT.out; omega) _ BW.out)
   replace V0 := Hi (show WB _ (g + 1) x from ⟨V0.out.1, ho.bk V0.out.2 (by have := LT.out; omega)⟩)
   replace R0 := Hi (ho.qb R0.out (by have := LT.out; omega))
   replace Y := Hi hd
   clear hd ho
   clear c0 c5 c6 c7 c8
   obtain ⟨c0, c5, c6, c7, c8⟩ := V0.out.cells
   try rw [OPE.out] at c0
   go_wp2_with ((with_reducible refine s7a ?_ ?_); (focus rfl))
   obtain ⟨y, hy⟩ : ∃ y : Qt, y = (Qt.mk x.op x.id PL nilB 0 z16 K9 n m) := ⟨_, rfl⟩
   replace Y : Hid (QB _ i9 y) := Hi (by rw [hy]; exact Y.out)
   have HC : Hid (reqF n m kl x.ct = if y.ct.right = true then (y.ct, 0) else (zeroQt.ct, 1)) := Hi (by rw [reqF_2 OPE.out HN.out, hy]; simp only [Qt.ct, Wt.ct, HPE.out, HKL.out]; rfl)
   have YI := Hi (nilPN Y.out (by rw [hy]))
   clear hy
   refine at9 (by go_simp) fun K0 hK => ld_q _ i9 y rfl rfl Y.out (hK _ _ ?_)
   clear hK
   go_wp2_with ((with_reducible refine s7a ?_ ?_); (focus rfl))
   refine (qright_any y _ ⟨Y.out.1, YI.out.1⟩).mono ?_
   rintro e w6 ⟨rfl, x6⟩
   obtain ⟨b, hb⟩ : ∃ b, b = y.ct.right := ⟨_, rfl⟩
   rw [← hb]
   rw [← hb] at HC
   clear hb
   replace YI := Hi (YI.out.ext x6)
   replace BW := Hi (Ex.trans BW.out x6)
   replace V0 := Hi (V0.out.ext x6)
   replace R0 := Hi (R0.out.ext x6)
   replace Y := Hi (Y.out.ext x6)
   clear x6
   clear c0 c5 c6 c7 c8
   obtain ⟨c0, c5, c6, c7, c8⟩ := V0.out.cells
   try rw [OPE.out] at c0
   cases b
   ·go_wp2_with ((with_reducible refine s7a ?_ ?_); (focus rfl))
    refine at9 (by go_simp) fun K0 hK => wp_build _ _ rfl _ built_zreq (hK _ _ ?_)
    clear hK
    go_wp2_with ((with_reducible refine s7a ?_ ?_); (focus rfl))
    refine at9 (by go_simp) fun K0 hK => st_q _ _ (g + 1 + 1) zeroQt rfl rfl rfl zeroQt_ok R0.out.2 (by rw [List.size_toArray, Qt.len zeroQt_ok]) (fun w9 hd ho => hK _ _ ?_)
    clear hK
    replace BW := Hi (ho.below w.heap.size (by have := HG.out; have := LT.out; omega) _ BW.out)
    have YD := Hi hd
    clear hd ho
    go_wp2_with fail
    exact bodyPost_ret (res_q2 rfl _ _ (g + 1 + 1) rfl zeroQt YD.out) rfl ⟨zeroQt, by rw [HRF.out]; rw [HC.out] <;> rfl, ⟨zeroQt_ok, nilB_pn _ _⟩, by rw [HRF.out]; rw [HC.out] <;> rfl, BW.out⟩
   ·go_wp2_with ((with_reducible refine s7a ?_ ?_); (focus rfl))
    refine at9 (by go_simp) fun K0 hK => ld_q _ i9 y rfl rfl Y.out (hK _ _ ?_)
    clear hK
    go_wp2_with ((with_reducible refine s7a ?_ ?_); (focus rfl))
    refine at9 (by go_simp) fun K0 hK => st_q _ _ (g + 1 + 1) y rfl rfl rfl Y.out.1 R0.out.2 (by rw [List.size_toArray, Qt.len zeroQt_ok]) (fun w9 hd ho => hK _ _ ?_)
    clear hK
    replace BW := Hi (ho.below w.heap.size (by have := HG.out; have := LT.out; omega) _ BW.out)
    have YD := Hi hd
    have YO := Hi Y.out.1
    have YF := Hi (YI.out.onlyT ho R0.out.2 (by decide))
    clear hd ho
    go_wp2_with fail
    exact bodyPost_ret (res_q2 rfl _ _ (g + 1 + 1) rfl y YD.out) rfl ⟨y, by rw [HRF.out, HC.out]; rfl, ⟨YO.out, YF.out⟩, by rw [HRF.out, HC.out]; rfl, BW.out⟩
 by_cases e3 : x.op = 3
 ·have OPE := Hi e3
  clear e1
  clear e2
  rw [e3] at c0
  clear e3
  go_wp2_with ((with_reducible refine s7a ?_ ?_); (focus rfl))
  refine at9 (by go_simp) fun K0 hK => ld_wid _ (g + 1) x rfl rfl V0.out (hK _ _ ?_)
  clear hK
  go_wp2_with ((with_reducible refine s7a ?_ ?_); (focus rfl))
  refine (pin9_any x.pin x.id HX.out.1.idN _).mono ?_
  rintro e w3 ⟨rfl, x3⟩
  replace BW := Hi (Ex.trans BW.out x3)
  replace V0 := Hi (V0.out.ext x3)
  replace R0 := Hi (R0.out.ext x3)
  replace Y := Hi (Y.out.ext x3)
  clear x3
  clear c0 c5 c6 c7 c8
  obtain ⟨c0, c5, c6, c7, c8⟩ := V0.out.cells
  try rw [OPE.out] at c0
  obtain ⟨PL, hPL⟩ : ∃ P, P = Sm.pinL x.pin x.id := ⟨_, rfl⟩
  have HPL : Hid (PL.length = 16) := Hi (by rw [hPL]; exact pinL_len _ _)
  rw [← hPL]
  have HPE := Hi hPL
  clear hPL
  cases hn : Sm.nrm (Sm.signs x.pin) with
  | none =>
   have hE : Sm.pinE x.pin = 23 := by unfold Sm.pinE; rw [hn]
   rw [hE]
   have HN := Hi hn
   clear hE hn
   go_wp2_with ((with_reducible refine s7a ?_ ?_); (focus rfl))
   refine at9 (by go_simp) fun K0 hK => st_dgb _ _ w3.heap.size z16 PL rfl rfl rfl rfl HPL.out (Bk.new rfl _ _) (fun w4 hd ho => hK _ _ ?_)
   clear hK
   have x4 : Ex w3 w4 := ho.below w3.heap.size (Nat.le_refl _) w3 (Ex.alloc w3 _)
   clear hd ho
   replace BW := Hi (Ex.trans BW.out x4)
   replace V0 := Hi (V0.out.ext x4)
   replace R0 := Hi (R0.out.ext x4)
   replace Y := Hi (Y.out.ext x4)
   clear x4
   clear c0 c5 c6 c7 c8
   obtain ⟨c0, c5, c6, c7, c8⟩ := V0.out.cells
   try rw [OPE.out] at c0
   go_wp2_with ((with_reducible refine s7a ?_ ?_); (focus rfl))
   refine at9 (by go_simp) fun K0 hK => wp_build _ _ rfl _ built_zreq (hK _ _ ?_)
   clear hK
   go_wp2_with ((with_reducible refine s7a ?_ ?_); (focus rfl))
   refine at9 (by go_simp) fun K0 hK => st_q _ _ (g + 1 + 1) zeroQt rfl rfl rfl zeroQt_ok R0.out.2 (by rw [List.size_toArray, Qt.len zeroQt_ok]) (fun w9 hd ho => hK _ _ ?_)
   clear hK
   replace BW := Hi (ho.below w.heap.size (by have := HG.out; have := LT.out; omega) _ BW.out)
   have YD := Hi hd
   clear hd ho
   go_wp2_with fail
   exact bodyPost_ret (res_q2 rfl _ _ (g + 1 + 1) rfl zeroQt YD.out) rfl ⟨zeroQt, by rw [HRF.out]; rw [reqF_none (Or.inr (Or.inr OPE.out)) HN.out] <;> rfl, ⟨zeroQt_ok, nilB_pn _ _⟩, by rw [HRF.out]; rw [reqF_none (Or.inr (Or.inr OPE.out)) HN.out] <;> rfl, BW.out⟩
  | some pd =>
   have hE : Sm.pinE x.pin = 0 := by unfold Sm.pinE; rw [hn]
   rw [hE]
   have HN := Hi hn
   clear hE hn
   go_wp2_with ((with_reducible refine s7a ?_ ?_); (focus rfl))
   refine at9 (by go_simp) fun K0 hK => st_dgb _ _ w3.heap.size z16 PL rfl rfl rfl rfl HPL.out (Bk.new rfl _ _) (fun w4 hd ho => hK _ _ ?_)
   clear hK
   have x4 : Ex w3 w4 := ho.below w3.heap.size (Nat.le_refl _) w3 (Ex.alloc w3 _)
   obtain ⟨i5, hi5⟩ : ∃ i, i = w3.heap.size := ⟨_, rfl⟩
   have LP : Hid (i9 < i5) := Hi (by have := Y.out.lt; omega)
   have PD := Hi hd
   rw [← hi5] at PD ⊢
   clear hd ho hi5
   replace BW := Hi (Ex.trans BW.out x4)
   replace V0 := Hi (V0.out.ext x4)
   replace R0 := Hi (R0.out.ext x4)
   replace Y := Hi (Y.out.ext x4)
   clear x4
   clear c0 c5 c6 c7 c8
   obtain ⟨c0, c5, c6, c7, c8⟩ := V0.out.cells
   try rw [OPE.out] at c0
   go_wp2_with ((with_reducible refine s7a ?_ ?_); (focus rfl))
   refine at9 (by go_simp) fun K0 hK => ld_dgb _ i5 PL rfl rfl HPL.out PD.out (hK _ _ ?_)
   clear hK
   go_wp2_with ((with_reducible refine s7a ?_ ?_); (focus rfl))
   refine at9 (by go_simp) fun K0 hK => st_qpin _ _ i9 _ PL rfl rfl rfl HPL.out Y.out (fun w5 hd ho => hK _ _ ?_)
   clear hK
   replace BW := Hi (ho.below w.heap.size (by have := HG.out; have := LT.out; omega) _ BW.out)
   replace V0 := Hi (show WB _ (g + 1) x from ⟨V0.out.1, ho.bk V0.out.2 (by have := LT.out; omega)⟩)
   replace R0 := Hi (ho.qb R0.out (by have := LT.out; omega))
   replace Y := Hi hd
   clear hd ho
   clear c0 c5 c6 c7 c8
   obtain ⟨c0, c5, c6, c7, c8⟩ := V0.out.cells
   try rw [OPE.out] at c0
   go_wp2_with ((with_reducible refine s7a ?_ ?_); (focus rfl))
   refine at9 (by go_simp) fun K0 hK => st_qlim (by kernel_rfl) _ _ i9 _ x.lim rfl rfl rfl HX.out.1.lim0 HX.out.1.lim1 Y.out (fun w5 hd ho => hK _ _ ?_)
   clear hK
   replace BW := Hi (ho.below w.heap.size (by have := HG.out; have := LT.out; omega) _ BW.out)
   replace V0 := Hi (show WB _ (g + 1) x from ⟨V0.out.1, ho.bk V0.out.2 (by have := LT.out; omega)⟩)
   replace R0 := Hi (ho.qb R0.out (by have := LT.out; omega))
   replace Y := Hi hd
   clear hd ho
   clear c0 c5 c6 c7 c8
   obtain ⟨c0, c5, c6, c7, c8⟩ := V0.out.cells
   try rw [OPE.out] at c0
   go_wp2_with ((with_reducible refine s7a ?_ ?_); (focus rfl))
   have SI := HX.out.2.ext BW.out
   refine (bclone_any x.sec HX.out.1.secN _ SI).mono ?_
   rintro e w3 ⟨sp, rfl, sl, sn, x3⟩
   have YL := Y.out.lt
   have SN := Hi (sn.less (Nat.le_refl _))
   have SL := Hi sl
   have YG := Hi YL
   clear sn sl SI YL
   replace BW := Hi (Ex.trans BW.out x3)
   replace V0 := Hi (V0.out.ext x3)
   replace R0 := Hi (R0.out.ext x3)
   replace Y := Hi (Y.out.ext x3)
   clear x3
   clear c0 c5 c6 c7 c8
   obtain ⟨c0, c5, c6, c7, c8⟩ := V0.out.cells
   try rw [OPE.out] at c0
   go_wp2_with ((with_reducible refine s7a ?_ ?_); (focus rfl))
   refine at9 (by go_simp) fun K0 hK => st_qsec (by kernel_rfl) _ _ i9 _ sp rfl rfl rfl Y.out (fun w5 hd ho => hK _ _ ?_)
   clear hK
   replace BW := Hi (ho.below w.heap.size (by have := HG.out; have := LT.out; omega) _ BW.out)
   replace V0 := Hi (show WB _ (g + 1) x from ⟨V0.out.1, ho.bk V0.out.2 (by have := LT.out; omega)⟩)
   replace R0 := Hi (ho.qb R0.out (by have := LT.out; omega))
   replace SN := Hi (SN.out.only ho YG.out)
   replace Y := Hi hd
   clear hd ho
   clear c0 c5 c6 c7 c8
   obtain ⟨c0, c5, c6, c7, c8⟩ := V0.out.cells
   try rw [OPE.out] at c0
   go_wp2_with ((with_reducible refine s7a ?_ ?_); (focus rfl))
   refine at9 (by go_simp) fun K0 hK => wp_cvs9 _ x.own rfl rfl (fun op w3 ol oi x3 => hK _ _ ?_)
   clear hK
   have OI := Hi oi
   have OL := Hi ol
   clear oi ol
   replace BW := Hi (Ex.trans BW.out x3)
   replace V0 := Hi (V0.out.ext x3)
   replace R0 := Hi (R0.out.ext x3)
   replace Y := Hi (Y.out.ext x3)
   replace SN := Hi (SN.out.ext x3)
   clear x3
   clear c0 c5 c6 c7 c8
   obtain ⟨c0, c5, c6, c7, c8⟩ := V0.out.cells
   try rw [OPE.out] at c0
   go_wp2_with ((with_reducible refine s7a ?_ ?_); (focus rfl))
   refine (sum9_any op _ OI.out (by rw [OL.out, Array.length_toList]; exact Nat.lt_succ_of_le HX.out.1.ownN)).mono ?_
   rintro e w3 ⟨rfl, x3⟩
   rw [OL.out]
   clear OI
   replace BW := Hi (Ex.trans BW.out x3)
   replace V0 := Hi (V0.out.ext x3)
   replace R0 := Hi (R0.out.ext x3)
   replace Y := Hi (Y.out.ext x3)
   replace SN := Hi (SN.out.ext x3)
   clear x3
   clear c0 c5 c6 c7 c8
   obtain ⟨c0, c5, c6, c7, c8⟩ := V0.out.cells
   try rw [OPE.out] at c0
   go_wp2_with ((with_reducible refine s7a ?_ ?_); (focus rfl))
   refine at9 (by go_simp) fun K0 hK => st_qown _ _ i9 _ (Sm.sumL x.own.data.toList) rfl rfl rfl (Sm.sumL_len _) Y.out (fun w5 hd ho => hK _ _ ?_)
   clear hK
   replace BW := Hi (ho.below w.heap.size (by have := HG.out; have := LT.out; omega) _ BW.out)
   replace V0 := Hi (show WB _ (g + 1) x from ⟨V0.out.1, ho.bk V0.out.2 (by have := LT.out; omega)⟩)
   replace R0 := Hi (ho.qb R0.out (by have := LT.out; omega))
   replace SN := Hi (SN.out.onlyT ho Y.out.2 (by decide))
   replace Y := Hi hd
   clear hd ho
   clear c0 c5 c6 c7 c8
   obtain ⟨c0, c5, c6, c7, c8⟩ := V0.out.cells
   try rw [OPE.out] at c0
   go_wp2_with ((with_reducible refine s7a ?_ ?_); (focus rfl))
   obtain ⟨y, hy⟩ : ∃ y : Qt, y = (Qt.mk x.op x.id PL sp x.lim (Sm.sumL x.own.data.toList) K9 n m) := ⟨_, rfl⟩
   replace Y : Hid (QB _ i9 y) := Hi (by rw [hy]; exact Y.out)
   have HC : Hid (reqF n m kl x.ct = if y.ct.right = true then (y.ct, 0) else (zeroQt.ct, 1)) := Hi (by rw [reqF_3 OPE.out HN.out, hy]; simp only [Qt.ct, Wt.ct, HPE.out, HKL.out, SL.out]; rfl)
   have YI : Hid (PN _ 0 y.sec) := Hi (by rw [hy]; exact SN.out.less (Nat.zero_le _))
   clear hy
   refine at9 (by go_simp) fun K0 hK => ld_q _ i9 y rfl rfl Y.out (hK _ _ ?_)
   clear hK
   go_wp2_with ((with_reducible refine s7a ?_ ?_); (focus rfl))
   refine (qright_any y _ ⟨Y.out.1, YI.out.1⟩).mono ?_
   rintro e w6 ⟨rfl, x6⟩
   obtain ⟨b, hb⟩ : ∃ b, b = y.ct.right := ⟨_, rfl⟩
   rw [← hb]
   rw [← hb] at HC
   clear hb
   replace YI := Hi (YI.out.ext x6)
   replace BW := Hi (Ex.trans BW.out x6)
   replace V0 := Hi (V0.out.ext x6)
   replace R0 := Hi (R0.out.ext x6)
   replace Y := Hi (Y.out.ext x6)
   clear x6
   clear c0 c5 c6 c7 c8
   obtain ⟨c0, c5, c6, c7, c8⟩ := V0.out.cells
   try rw [OPE.out] at c0
   cases b
   ·go_wp2_with ((with_reducible refine s7a ?_ ?_); (focus rfl))
    refine at9 (by go_simp) fun K0 hK => wp_build _ _ rfl _ built_zreq (hK _ _ ?_)
    clear hK
    go_wp2_with ((with_reducible refine s7a ?_ ?_); (focus rfl))
    refine at9 (by go_simp) fun K0 hK => st_q _ _ (g + 1 + 1) zeroQt rfl rfl rfl zeroQt_ok R0.out.2 (by rw [List.size_toArray, Qt.len zeroQt_ok]) (fun w9 hd ho => hK _ _ ?_)
    clear hK
    replace BW := Hi (ho.below w.heap.size (by have := HG.out; have := LT.out; omega) _ BW.out)
    have YD := Hi hd
    clear hd ho
    go_wp2_with fail
    exact bodyPost_ret (res_q2 rfl _ _ (g + 1 + 1) rfl zeroQt YD.out) rfl ⟨zeroQt, by rw [HRF.out]; rw [HC.out] <;> rfl, ⟨zeroQt_ok, nilB_pn _ _⟩, by rw [HRF.out]; rw [HC.out] <;> rfl, BW.out⟩
   ·go_wp2_with ((with_reducible refine s7a ?_ ?_); (focus rfl))
    refine at9 (by go_simp) fun K0 hK => ld_q _ i9 y rfl rfl Y.out (hK _ _ ?_)
    clear hK
    go_wp2_with ((with_reducible refine s7a ?_ ?_); (focus rfl))
    refine at9 (by go_simp) fun K0 hK => st_q _ _ (g + 1 + 1) y rfl rfl rfl Y.out.1 R0.out.2 (by rw [List.size_toArray, Qt.len zeroQt_ok]) (fun w9 hd ho => hK _ _ ?_)
    clear hK
    replace BW := Hi (ho.below w.heap.size (by have := HG.out; have := LT.out; omega) _ BW.out)
    have YD := Hi hd
    have YO := Hi Y.out.1
    have YF := Hi (YI.out.onlyT ho R0.out.2 (by decide))
    clear hd ho
    go_wp2_with fail
    exact bodyPost_ret (res_q2 rfl _ _ (g + 1 + 1) rfl y YD.out) rfl ⟨y, by rw [HRF.out, HC.out]; rfl, ⟨YO.out, YF.out⟩, by rw [HRF.out, HC.out]; rfl, BW.out⟩
 by_cases e4 : x.op = 4
 ·have OPE := Hi e4
  clear e1
  clear e2
  clear e3
  rw [e4] at c0
  clear e4
  go_wp2_with ((with_reducible refine s7a ?_ ?_); (focus rfl))
  refine at9 (by go_simp) fun K0 hK => wp_cvs9 _ x.own rfl rfl (fun op w3 ol oi x3 => hK _ _ ?_)
  clear hK
  have OI := Hi oi
  have OL := Hi ol
  clear oi ol
  replace BW := Hi (Ex.trans BW.out x3)
  replace V0 := Hi (V0.out.ext x3)
  replace R0 := Hi (R0.out.ext x3)
  replace Y := Hi (Y.out.ext x3)
  clear x3
  clear c0 c5 c6 c7 c8
  obtain ⟨c0, c5, c6, c7, c8⟩ := V0.out.cells
  try rw [OPE.out] at c0
  go_wp2_with ((with_reducible refine s7a ?_ ?_); (focus rfl))
  refine (sum9_any op _ OI.out (by rw [OL.out, Array.length_toList]; exact Nat.lt_succ_of_le HX.out.1.ownN)).mono ?_
  rintro e w3 ⟨rfl, x3⟩
  rw [OL.out]
  clear OI
  replace BW := Hi (Ex.trans BW.out x3)
  replace V0 := Hi (V0.out.ext x3)
  replace R0 := Hi (R0.out.ext x3)
  replace Y := Hi (Y.out.ext x3)
  clear x3
  clear c0 c5 c6 c7 c8
  obtain ⟨c0, c5, c6, c7, c8⟩ := V0.out.cells
  try rw [OPE.out] at c0
  go_wp2_with ((with_reducible refine s7a ?_ ?_); (focus rfl))
  refine at9 (by go_simp) fun K0 hK => st_qown _ _ i9 _ (Sm.sumL x.own.data.toList) rfl rfl rfl (Sm.sumL_len _) Y.out (fun w5 hd ho => hK _ _ ?_)
  clear hK
  replace BW := Hi (ho.below w.heap.size (by have := HG.out; have := LT.out; omega) _ BW.out)
  replace V0 := Hi (show WB _ (g + 1) x from ⟨V0.out.1, ho.bk V0.out.2 (by have := LT.out; omega)⟩)
  replace R0 := Hi (ho.qb R0.out (by have := LT.out; omega))
  replace Y := Hi hd
  clear hd ho
  clear c0 c5 c6 c7 c8
  obtain ⟨c0, c5, c6, c7, c8⟩ := V0.out.cells
  try rw [OPE.out] at c0
  go_wp2_with ((with_reducible refine s7a ?_ ?_); (focus rfl))
  obtain ⟨y, hy⟩ : ∃ y : Qt, y = (Qt.mk x.op x.id z16 nilB 0 (Sm.sumL x.own.data.toList) K9 n m) := ⟨_, rfl⟩
  replace Y : Hid (QB _ i9 y) := Hi (by rw [hy]; exact Y.out)
  have HC : Hid (reqF n m kl x.ct = if y.ct.right = true then (y.ct, 0) else (zeroQt.ct, 1)) := Hi (by rw [reqF_4 OPE.out, hy]; simp only [Qt.ct, Wt.ct, HKL.out]; rfl)
  have YI := Hi (nilPN Y.out (by rw [hy]))
  clear hy
  refine at9 (by go_simp) fun K0 hK => ld_q _ i9 y rfl rfl Y.out (hK _ _ ?_)
  clear hK
  go_wp2_with ((with_reducible refine s7a ?_ ?_); (focus rfl))
  refine (qright_any y _ ⟨Y.out.1, YI.out.1⟩).mono ?_
  rintro e w6 ⟨rfl, x6⟩
  obtain ⟨b, hb⟩ : ∃ b, b = y.ct.right := ⟨_, rfl⟩
  rw [← hb]
  rw [← hb] at HC
  clear hb
  replace YI := Hi (YI.out.ext x6)
  replace BW := Hi (Ex.trans BW.out x6)
  replace V0 := Hi (V0.out.ext x6)
  replace R0 := Hi (R0.out.ext x6)
  replace Y := Hi (Y.out.ext x6)
  clear x6
  clear c0 c5 c6 c7 c8
  obtain ⟨c0, c5, c6, c7, c8⟩ := V0.out.cells
  try rw [OPE.out] at c0
  cases b
  ·go_wp2_with ((with_reducible refine s7a ?_ ?_); (focus rfl))
   refine at9 (by go_simp) fun K0 hK => wp_build _ _ rfl _ built_zreq (hK _ _ ?_)
   clear hK
   go_wp2_with ((with_reducible refine s7a ?_ ?_); (focus rfl))
   refine at9 (by go_simp) fun K0 hK => st_q _ _ (g + 1 + 1) zeroQt rfl rfl rfl zeroQt_ok R0.out.2 (by rw [List.size_toArray, Qt.len zeroQt_ok]) (fun w9 hd ho => hK _ _ ?_)
   clear hK
   replace BW := Hi (ho.below w.heap.size (by have := HG.out; have := LT.out; omega) _ BW.out)
   have YD := Hi hd
   clear hd ho
   go_wp2_with fail
   exact bodyPost_ret (res_q2 rfl _ _ (g + 1 + 1) rfl zeroQt YD.out) rfl ⟨zeroQt, by rw [HRF.out]; rw [HC.out] <;> rfl, ⟨zeroQt_ok, nilB_pn _ _⟩, by rw [HRF.out]; rw [HC.out] <;> rfl, BW.out⟩
  go_wp2_with ((with_reducible refine s7a ?_ ?_); (focus rfl))
  refine at9 (by go_simp) fun K0 hK => ld_q _ i9 y rfl rfl Y.out (hK _ _ ?_)
  clear hK
  go_wp2_with ((with_reducible refine s7a ?_ ?_); (focus rfl))
  refine at9 (by go_simp) fun K0 hK => st_q _ _ (g + 1 + 1) y rfl rfl rfl Y.out.1 R0.out.2 (by rw [List.size_toArray, Qt.len zeroQt_ok]) (fun w9 hd ho => hK _ _ ?_)
  clear hK
  replace BW := Hi (ho.below w.heap.size (by have := HG.out; have := LT.out; omega) _ BW.out)
  have YD := Hi hd
  have YO := Hi Y.out.1
  have YF := Hi (YI.out.onlyT ho R0.out.2 (by decide))
  clear hd ho
  go_wp2_with fail
  exact bodyPost_ret (res_q2 rfl _ _ (g + 1 + 1) rfl y YD.out) rfl ⟨y, by rw [HRF.out, HC.out]; rfl, ⟨YO.out, YF.out⟩, by rw [HRF.out, HC.out]; rfl, BW.out⟩
 have OPE := Hi (And.intro e1 (And.intro e2 (And.intro e3 e4)))
 have h1 : (x.op == 1) = false := by simpa using e1
 have h2 : (x.op == 2) = false := by simpa using e2
 have h3 : (x.op == 3) = false := by simpa using e3
 have h4 : (x.op == 4) = false := by simpa using e4
 go_wp2_with ((with_reducible refine s7a ?_ ?_); (focus rfl))
 obtain ⟨y, hy⟩ : ∃ y : Qt, y = (Qt.mk x.op x.id z16 nilB 0 z16 K9 n m) := ⟨_, rfl⟩
 replace Y : Hid (QB _ i9 y) := Hi (by rw [hy]; exact Y.out)
 have HC : Hid (reqF n m kl x.ct = if y.ct.right = true then (y.ct, 0) else (zeroQt.ct, 1)) := Hi (by rw [reqF_0 OPE.out, hy]; simp only [Qt.ct, Wt.ct, HKL.out]; rfl)
 have YI := Hi (nilPN Y.out (by rw [hy]))
 clear hy
 refine at9 (by go_simp) fun K0 hK => ld_q _ i9 y rfl rfl Y.out (hK _ _ ?_)
 clear hK
 go_wp2_with ((with_reducible refine s7a ?_ ?_); (focus rfl))
 refine (qright_any y _ ⟨Y.out.1, YI.out.1⟩).mono ?_
 rintro e w6 ⟨rfl, x6⟩
 obtain ⟨b, hb⟩ : ∃ b, b = y.ct.right := ⟨_, rfl⟩
 rw [← hb]
 rw [← hb] at HC
 clear hb
 replace YI := Hi (YI.out.ext x6)
 replace BW := Hi (Ex.trans BW.out x6)
 replace V0 := Hi (V0.out.ext x6)
 replace R0 := Hi (R0.out.ext x6)
 replace Y := Hi (Y.out.ext x6)
 clear x6
 clear c0 c5 c6 c7 c8
 obtain ⟨c0, c5, c6, c7, c8⟩ := V0.out.cells
 try rw [OPE.out] at c0
 cases b
 ·go_wp2_with ((with_reducible refine s7a ?_ ?_); (focus rfl))
  refine at9 (by go_simp) fun K0 hK => wp_build _ _ rfl _ built_zreq (hK _ _ ?_)
  clear hK
  go_wp2_with ((with_reducible refine s7a ?_ ?_); (focus rfl))
  refine at9 (by go_simp) fun K0 hK => st_q _ _ (g + 1 + 1) zeroQt rfl rfl rfl zeroQt_ok R0.out.2 (by rw [List.size_toArray, Qt.len zeroQt_ok]) (fun w9 hd ho => hK _ _ ?_)
  clear hK
  replace BW := Hi (ho.below w.heap.size (by have := HG.out; have := LT.out; omega) _ BW.out)
  have YD := Hi hd
  clear hd ho
  go_wp2_with fail
  exact bodyPost_ret (res_q2 rfl _ _ (g + 1 + 1) rfl zeroQt YD.out) rfl ⟨zeroQt, by rw [HRF.out]; rw [HC.out] <;> rfl, ⟨zeroQt_ok, nilB_pn _ _⟩, by rw [HRF.out]; rw [HC.out] <;> rfl, BW.out⟩
 go_wp2_with ((with_reducible refine s7a ?_ ?_); (focus rfl))
 refine at9 (by go_simp) fun K0 hK => ld_q _ i9 y rfl rfl Y.out (hK _ _ ?_)
 clear hK
 go_wp2_with ((with_reducible refine s7a ?_ ?_); (focus rfl))
 refine at9 (by go_simp) fun K0 hK => st_q _ _ (g + 1 + 1) y rfl rfl rfl Y.out.1 R0.out.2 (by rw [List.size_toArray, Qt.len zeroQt_ok]) (fun w9 hd ho => hK _ _ ?_)
 clear hK
 replace BW := Hi (ho.below w.heap.size (by have := HG.out; have := LT.out; omega) _ BW.out)
 have YD := Hi hd
 have YO := Hi Y.out.1
 have YF := Hi (YI.out.onlyT ho R0.out.2 (by decide))
 clear hd ho
 go_wp2_with fail
 exact bodyPost_ret (res_q2 rfl _ _ (g + 1 + 1) rfl y YD.out) rfl ⟨y, by rw [HRF.out, HC.out]; rfl, ⟨YO.out, YF.out⟩, by rw [HRF.out, HC.out]; rfl, BW.out⟩
end Go.Proofs.Ytopamplmpfndlaa.Cl
namespace Go.Proofs.Ytopamplmpfndlaa
open Go.RowKit
def VN (w : World) (B : Nat) (v : Vt) : Prop := v.Ok ∧ PN w B v.sec
theorem VN.vi {w : World} {B : Nat} {v : Vt} (h : VN w B v) : VI w v := ⟨h.1, h.2.1⟩
theorem VN.ext {w w' : World} {B : Nat} {v : Vt} (h : VN w B v) (k : Ex w w') : VN w' B v := ⟨h.1, h.2.ext k⟩
theorem VN.only {w w' : World} {B g : Nat} {v : Vt} (h : VN w B v) (ho : Only g w w') (hg : g < B) : VN w' B v := ⟨h.1, h.2.only ho hg⟩
structure VS (w : World) (lo hi : Nat) (v : Vt) : Prop where
 ok : v.Ok
 sec : v.sec.In w hi
 frm : ∀ a, v.sec.ad = some a → lo ≤ a.block ∧ a.block < hi
 typ : ∀ a, v.sec.ad = some a → ∃ cs, Bk w a.block 5 cs
 le : hi ≤ w.heap.size
theorem VN.vs {w : World} {B : Nat} {v : Vt} (h : VN w B v) : VS w B w.heap.size v := ⟨h.1, h.2.1, fun a e => ⟨(h.2.2 a e).1, (h.2.2 a e).2.elim fun _ hc => hc.lt⟩, fun a e => (h.2.2 a e).2, Nat.le_refl _⟩
theorem VS.vn {w : World} {lo hi : Nat} {v : Vt} (h : VS w lo hi v) : VN w lo v := ⟨h.ok, h.sec.more h.le, fun a e => ⟨(h.frm a e).1, h.typ a e⟩⟩
theorem VS.ext {w w' : World} {lo hi : Nat} {v : Vt} (h : VS w lo hi v) (k : Ex w w') : VS w' lo hi v := ⟨h.ok, h.sec.keep (k.mono h.le), h.frm, fun a e => (h.typ a e).elim fun cs hc => ⟨cs, hc.ext k⟩, Nat.le_trans h.le k.size⟩
theorem VS.only {w w' : World} {lo hi g : Nat} {v : Vt} (h : VS w lo hi v) (ho : Only g w w') (hg : g < lo ∨ hi ≤ g) : VS w' lo hi v :=
 ⟨h.ok, h.sec.only ho (fun a e => by have := h.frm a e; omega), h.frm, fun a e => (h.typ a e).elim fun cs hc => ⟨cs, ho.bk hc (by have := h.frm a e; omega)⟩, by rw [ho.size]; exact h.le⟩
theorem VS.used {w : World} {lo hi : Nat} {v : Vt} (h : VS w lo hi v) (n : Int) (n0 : -9223372036854775808 ≤ n) (n1 : n ≤ 9223372036854775807) : VS w lo hi { v with used := n } := ⟨{ h.ok with used0 := n0, used1 := n1 }, h.sec, h.frm, h.typ, h.le⟩
theorem VS.gone {w : World} {lo hi : Nat} {id : List UInt8} {g : Int} {wi : Bool} (h : id.length = 4) (g0 : 0 ≤ g) (g1 : g < 18446744073709551616) (k : hi ≤ w.heap.size) : VS w lo hi (goneVt id g wi) := ⟨goneVt_ok h g0 g1, nilB_in _ _, (fun a e => by cases e), (fun a e => by cases e), k⟩
theorem Md.new {g h : Nat} {w w1 w2 : World} (k : Md g w w1) (ho : Only h w1 w2) (hh : w.heap.size ≤ h) (hg : g < w.heap.size) : Md g w w2 :=
 ⟨fun B hB a ha => ho.below B (by omega) a (k.below B hB a ha), fun i hi hl => (ho.other i (by omega)).trans (k.other i hi hl), by rw [ho.size]; exact k.size⟩
def DB (w : World) (g : Nat) (X : List UInt8) : Prop := X.length = 16 ∧ Bk w g 36 (Lib.byteCells X).toArray
theorem DB.ext {w w' : World} {g : Nat} {X : List UInt8} (h : DB w g X) (k : Ex w w') : DB w' g X := ⟨h.1, h.2.ext k⟩
theorem Only.db {g h : Nat} {w w' : World} {X : List UInt8} (k : Only g w w') (hb : DB w h X) (hne : h ≠ g) : DB w' h X := ⟨hb.1, k.bk hb.2 hne⟩
end Go.Proofs.Ytopamplmpfndlaa
namespace Go.Proofs.Ytopamplmpfndlaa
open Go.RowKit
theorem Ex.sz {w w' : World} (h : Ex w w') : w.heap.size ≤ w'.heap.size := Below.size h
inductive Ar where
 | any
 | is (x : Value)
 | pn (B : Nat) (l : List UInt8)
 | vx (v : Vt) (l : List UInt8) (B : Nat)
 | qx (q : Qt) (l : List UInt8) (B : Nat)
 | blk (base : Nat) (t : TypeId) (cs : Array Value)
 | emp (base : Nat)
 | intb (k : IntKind) (lo hi : Int)
 | dig (n : Nat)
 | sat (p : Value → Prop)
def Ar.holds : Ar → Value → World → Prop
 | .any, _, _ => True
 | .is x, v, _ => v = x
 | .pn B l, v, w => ∃ p : Pt, v = p.V ∧ p.l = l ∧ PN w B p
 | .vx u l B, v, w => ∃ p : Pt, v = Vt.V { u with sec := p } ∧ p.l = l ∧ PN w B p
 | .qx u l B, v, w => ∃ p : Pt, v = Qt.V { u with sec := p } ∧ p.l = l ∧ PN w B p
 | .blk base t cs, v, w => ∃ g, v = .pointer (some ⟨g, 0, none⟩) ∧ base ≤ g ∧ Bk w g t cs
 | .emp base, v, w => ∃ g, v = .slice (some ⟨g, 0, none⟩) 0 0 ∧ base ≤ g ∧ Bk w g 5 #[]
 | .intb k lo hi, v, _ => ∃ m : Int, v = .int k m ∧ lo ≤ m ∧ m ≤ hi
 | .dig n, v, _ => ∃ d : List UInt8, v = digV d ∧ d.length = n
 | .sat p, v, _ => p v
theorem Ar.stable {s : Ar} {v : Value} {w w' : World} (h : s.holds v w) (k : Ex w w') : s.holds v w' := by
 cases s with
 | any => exact h
 | is x => exact h
 | pn B l => obtain ⟨p, h1, h2, h3⟩ := h; exact ⟨p, h1, h2, h3.ext k⟩
 | vx u l B => obtain ⟨p, h1, h2, h3⟩ := h; exact ⟨p, h1, h2, h3.ext k⟩
 | qx u l B => obtain ⟨p, h1, h2, h3⟩ := h; exact ⟨p, h1, h2, h3.ext k⟩
 | blk base t cs => obtain ⟨g, h1, h2, h3⟩ := h; exact ⟨g, h1, h2, h3.ext k⟩
 | emp base => obtain ⟨g, h1, h2, h3⟩ := h; exact ⟨g, h1, h2, h3.ext k⟩
 | intb k lo hi => exact h
 | dig n => exact h
 | sat p => exact h
def Ar.far (g : Nat) : Ar → Prop
 | .pn B _ => g < B
 | .vx _ _ B => g < B
 | .qx _ _ B => g < B
 | .blk B _ _ => g < B
 | .emp B => g < B
 | _ => True
theorem Ar.only {s : Ar} {v : Value} {w w' : World} {g : Nat} (h : s.holds v w) (ho : Only g w w') (hf : s.far g) : s.holds v w' := by
 cases s with
 | any => exact h
 | is x => exact h
 | pn B l => obtain ⟨p, h1, h2, h3⟩ := h; exact ⟨p, h1, h2, h3.only ho hf⟩
 | vx u l B => obtain ⟨p, h1, h2, h3⟩ := h; exact ⟨p, h1, h2, h3.only ho hf⟩
 | qx u l B => obtain ⟨p, h1, h2, h3⟩ := h; exact ⟨p, h1, h2, h3.only ho hf⟩
 | blk base t cs => obtain ⟨g', h1, h2, h3⟩ := h; exact ⟨g', h1, h2, ho.bk h3 (by have : g < base := hf; omega)⟩
 | emp base => obtain ⟨g', h1, h2, h3⟩ := h; exact ⟨g', h1, h2, ho.bk h3 (by have : g < base := hf; omega)⟩
 | intb k lo hi => exact h
 | dig n => exact h
 | sat p => exact h
theorem own_less {w : World} {B B' : Nat} {v : Value} {l : List UInt8} (h : ownU w B v l) (k : B' ≤ B) : ownU w B' v l := by
 obtain ⟨h1, h2 | ⟨g, cap, cur, h3, h4, r⟩⟩ := h
 ·exact ⟨h1, .inl h2⟩
 exact ⟨h1, .inr ⟨g, cap, cur, h3, by omega, r⟩⟩
end Go.Proofs.Ytopamplmpfndlaa
namespace Go.Proofs.Ytopamplmpfndlaa
open Go.RowKit
def zeroRt : Rt := ⟨0, z4, 0, 0, nilB, 0, 0⟩
theorem zeroRt_ok : zeroRt.Ok := ⟨by decide, by decide, rfl, by decide, by decide, by decide, by decide, by decide, by decide, by decide, by decide⟩
structure DI (B g8 g9 : Nat) (w0 : World) (v : Vt) (r : Rt) (l3 l4 : Bool) (w : World) : Prop where
 z : ∃ x, VB w (B + 2) x ∧ (l3 = true → x = v)
 y : ∃ x, RB w (B + 3) x ∧ (l4 = true → x = r)
 vb : VB w g9 v
 rb : RB w g8 r
 vs : PN w B v.sec
 rs : PN w B r.sec
 ex : Ex w0 w
 sz : w0.heap.size = B
 lt8 : B + 4 ≤ g8
 lt9 : B + 4 ≤ g9
end Go.Proofs.Ytopamplmpfndlaa
