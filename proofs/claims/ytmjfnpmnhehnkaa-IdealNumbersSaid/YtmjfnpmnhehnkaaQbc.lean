/- Wf -/
import Derived.Test.YtmjfnpmnhehnkaaQbb
namespace Go.Proofs.Ytmjfnpmnhehnkaa
open Go.RowKit
theorem ld_vid9 {o : Oper} {a : Act} {w : World} {K : Act → World → Prop} {Q : Exit → Act → World → Prop} (y : Operand) (g off : Nat) (x : Vt) (hx : x.Ok) (ho : o.op = .load 32 y) (ha : a.eval y = .pointer (some ⟨g, off, none⟩)) (h : w.rangeAt g off x.C) (hk : K (a.put o.dst (digV x.id)) w) : o.wp Try.prog a w K Q := by
 obtain ⟨dd, hd⟩ : ∃ d, Try.prog.underlying 32 = some d ∧ d.isRow = true := ⟨_, Try.underlying32, rfl⟩
 refine wp_load_mid 32 y ho g off ha (Lib.byteCells x.id) dd (fun j u hu => h j u ?_) hd.1 hd.2 (by rw [Try.sizeId, byteCells_len, hx.idN]) hk
 have hj : j < (Lib.byteCells x.id).length := (List.getElem?_eq_some_iff.1 hu).1
 unfold Vt.C
 simp only [List.append_assoc]
 rw [List.getElem?_append_left hj]; exact hu
/-- bytes that lie in old memory, or in a block of bytes -/
def SK (w0 w : World) (p : Pt) : Prop := p.In w w0.heap.size ∨ PN w 0 p
theorem SK.inn {w0 w : World} {p : Pt} (h : SK w0 w p) (hs : w0.heap.size ≤ w.heap.size) : p.In w w.heap.size := by
 rcases h with h | h
 ·exact h.more hs
 exact h.1
theorem SK.ext {w0 w w' : World} {p : Pt} (h : SK w0 w p) (hs : w0.heap.size ≤ w.heap.size) (k : Ex w w') : SK w0 w' p := by
 rcases h with h | h
 ·exact Or.inl (h.keep (k.mono hs))
 exact Or.inr (h.ext k)
theorem SK.kt {S : List Nat} {w0 w w' : World} {p : Pt} (h : SK w0 w p) (k : Kt S w0.heap.size w w') (hu : 5 ∉ S) : SK w0 w' p := by
 rcases h with h | h
 ·exact Or.inl (h.keep k.below)
 exact Or.inr (h.kt k hu)
theorem SK.tc {w0 w w' : World} {p : Pt} {D : Nat} {rv : Value} {vs : List Vt} (h : SK w0 w p) (k : Tc D rv.ownBlock w w') (ht : TB w D rv vs) (hs : w0.heap.size ≤ w.heap.size) (lo : w0.heap.size ≤ D) : SK w0 w' p := by
 rcases h with h | h
 ·refine Or.inl (h.keep ⟨k.os, k.tape, k.output, k.size, fun i hi => k.block i (by omega) (by omega) (fun e => ?_)⟩)
  have := (ht.row.row.lt i e.symm).1
  omega
 exact Or.inr (h.tc9 k ht)
structure PX (w0 w : World) (x : Vt) : Prop where
 ok : x.Ok
 sec : SK w0 w x.sec
 len : x.sec.l.length ≤ 64
/-- the document's map: block P has a row of its own -/
structure PB (w0 w : World) (P : Nat) (rv : Value) (xs : List Vt) : Prop where
 blk : Bk w P 134 #[rv]
 row : w.ownsRow w0.heap.size 36 42 rv xs.length (xs.flatMap Vt.C)
 ins : ∀ (i : Nat) (x : Vt), xs[i]? = some x → PX w0 w x
 lo : w0.heap.size ≤ P
 sz : w0.heap.size ≤ w.heap.size
theorem PB.ext {w0 w w' : World} {P : Nat} {rv : Value} {xs : List Vt} (h : PB w0 w P rv xs) (k : Ex w w') : PB w0 w' P rv xs :=
 ⟨h.blk.ext k, k.row h.row, fun i x hx => ⟨(h.ins i x hx).ok, (h.ins i x hx).sec.ext h.sz k, (h.ins i x hx).len⟩, h.lo, Nat.le_trans h.sz (Below.size k)⟩
theorem PB.inn {w0 w : World} {P : Nat} {rv : Value} {xs : List Vt} (h : PB w0 w P rv xs) : ∃ ad cap, rv = .slice ad xs.length cap ∧ Vp.In ad cap xs w ∧ cap ≤ 9223372036854775807 := by
 have hok : ∀ (i : Nat) (x : Vt), xs[i]? = some x → x.Ok := fun i x hx => (h.ins i x hx).ok
 obtain ⟨ad2, cap2, e2, _, _, hc9, _⟩ := own_rd h.row
 obtain ⟨_, ⟨h1, ⟨hv, h0⟩ | ⟨g, cap, cur, rfl, hb, hh, hc, hm, hs, ht⟩⟩, _⟩ := h
 ·exact ⟨none, 0, by rw [h0]; exact hv, ⟨by rw [h0]; exact Nat.le_refl 0, fun _ => rfl, hok, fun h => by omega⟩, by decide⟩
 have hc9 : cap ≤ 9223372036854775807 := by cases e2; exact hc9
 refine ⟨some ⟨g, 0, none⟩, cap, rfl, ⟨hc, (fun h => by cases h), hok, fun _ => ⟨g, 0, rfl, (show Bk w g 36 cur from hh).lt, fun i x hx j u hu => ?_⟩⟩, hc9⟩
 have hil : i < xs.length := (List.getElem?_eq_some_iff.1 hx).1
 have hj : j < 42 := by have := (List.getElem?_eq_some_iff.1 hu).1; rw [Vt.len (hok i x hx)] at this; exact this
 have h3 := vflat_at xs hok i j x hx hj
 rw [← ht, hu, List.getElem?_take, if_pos (by omega)] at h3
 rw [(show Bk w g 36 cur from hh).cell, Nat.zero_add, ← Array.getElem?_toList]
 exact h3
/-- what get tells -/
def GetP (xs : List Vt) (id : List UInt8) (x : Vt) (k : Int) : Prop := (k = -1 ∧ x = zeroVt ∧ ∀ y ∈ xs, y.id ≠ id) ∨ ∃ j : Nat, k = (j : Int) ∧ xs[j]? = some x ∧ x.id = id
def cntS (xs : List Vt) (id : List UInt8) : Nat := xs.countP (fun y => decide (Sm.shV y.id = Sm.shV id))
def PGetPost (xs : List Vt) (id : List UInt8) (w : World) (e : Ending) (w' : World) : Prop := ∃ (x : Vt) (k : Int), e = .returned (.tuple #[x.V, .int .i64 k, .int .i64 (cntS xs id)]) ∧ GetP xs id x k ∧ Ex w w'
theorem cnt_step {xs : List Vt} {id : List UInt8} {i : Nat} {x : Vt} (hx : xs[i]? = some x) : cntS (xs.take (i + 1)) id = if Sm.shV x.id = Sm.shV id then cntS (xs.take i) id + 1 else cntS (xs.take i) id := by
 unfold cntS
 rw [List.take_add_one, hx, List.countP_append]
 by_cases h : Sm.shV x.id = Sm.shV id
 ·rw [if_pos h]; simp [h]
 rw [if_neg h]; simp [h]
theorem res_vii {fn : Func} {a b c : Tmp} (h : fn.results = #[.cell a 36, .tmp b, .tmp c]) (tmps : Array Value) (w : World) (g : Nat) (ha : tmps.getD a undef = .pointer (some ⟨g, 0, none⟩)) (x : Vt) (hx : VB w g x) :
  (results fn tmps).run Try.prog w = .ok (.tuple #[x.V, tmps.getD b undef, tmps.getD c undef]) w := by
 obtain ⟨dd, hd⟩ : ∃ d, Try.prog.underlying 36 = some d ∧ d.isRow = true := ⟨_, Try.underlying36, rfl⟩
 have ha' : tmps[a]?.getD undef = .pointer (some ⟨g, 0, none⟩) := by simpa using ha
 simp [results, h, ha', asAddr, run_loadVar_mid w g 0 _ x.C dd hx.2.range hd.1 hd.2 (by rw [Try.sizeVt, Vt.len hx.1]), Sem.run_bind]
 rfl
set_option maxHeartbeats 8000000 in
set_option maxRecDepth 100000 in
theorem pget_any (w0 : World) (P : Nat) (rv : Value) (xs : List Vt) (id : List UInt8) (hid : id.length = 4) (w : World) (h : PB w0 w P rv xs) : Calls Try.prog 74 #[.pointer (some ⟨P, 0, none⟩), digV id] w (PGetPost xs id w) := by
 have HP := Lib.hid h
 have HIDL := Lib.hid hid
 obtain ⟨ad, cap, rfl, hin, hcap⟩ := h.inn
 have HIN := Lib.hid hin
 obtain ⟨n, hn⟩ : ∃ n, n = xs.length := ⟨_, rfl⟩
 have HN := Lib.hid hn
 have hnc : n ≤ cap := by rw [hn]; exact hin.len
 obtain ⟨cs, hcs⟩ : ∃ cs, cs = (Lib.byteCells id).toArray := ⟨_, rfl⟩
 have I0 : Hid (Bk ((w.alloc (.cells cs 32)).alloc (.cells zeroVt.C.toArray 36)) w.heap.size 32 (Lib.byteCells id).toArray) := Lib.hid (by rw [hcs]; exact (Bk.new rfl _ _).more _)
 have Z0 : Hid (VB ((w.alloc (.cells cs 32)).alloc (.cells zeroVt.C.toArray 36)) (w.heap.size + 1) zeroVt) := Lib.hid ⟨zeroVt_ok, Bk.new (by simp) _ _⟩
 have BW : Hid (Ex w ((w.alloc (.cells cs 32)).alloc (.cells zeroVt.C.toArray 36))) := Lib.hid (Ex.trans (Ex.alloc w _) (Ex.alloc _ _))
 rw [show (Calls Try.prog 74 #[.pointer (some ⟨P, 0, none⟩), digV id] w) = (Calls Try.prog 74 #[.pointer (some ⟨P, 0, none⟩), .agg cs] w) by rw [hcs]; rfl]
 clear hcs h hid hin hn
 go_enter Try.func74, Try.ntmps74
 go_wp2_with ((with_reducible refine so0 ?_ ?_); (focus rfl))
 change Code.wp _ _ _ _ ((w.alloc (.cells cs 32)).alloc (.cells zeroVt.C.toArray 36))
 generalize hw1 : ((w.alloc (.cells cs 32)).alloc (.cells zeroVt.C.toArray 36)) = w1 at *
 clear hw1
 obtain ⟨B, hB⟩ : ∃ B, B = w.heap.size := ⟨_, rfl⟩
 rw [← hB] at I0 Z0 ⊢
 have HB := Lib.hid hB
 clear hB
 go_loopw [7, 8, 9] (fun t7 t8 t9 wr => ∃ (i : Nat) (k : Int), i ≤ n ∧ t9 = .int .i64 i ∧ t8 = .int .i64 k ∧ t7 = .int .i64 (cntS (xs.take i) id) ∧ Hid ((k = -1 ∧ ∀ y ∈ xs.take i, y.id ≠ id) ∨ ∃ (j : Nat) (x : Vt), k = (j : Int) ∧ j < i ∧ xs[j]? = some x ∧ x.id = id) ∧ Hid (Ex w1 wr)) (fun _ _ t9 _ => n - (intOf t9).toNat)
 case atStart => exact ⟨0, -1, by omega, rfl, rfl, rfl, Lib.hid (Or.inl ⟨rfl, fun y hy => by simp at hy⟩), Lib.hid (Ex.refl _)⟩
 case round =>
  obtain ⟨i, k, hi, rfl, rfl, rfl, HKK, BX⟩ := hrel
  have PBX := Lib.hid ((HP.out.ext BW.out).ext BX.out)
  have c0 : wr.cell? ⟨P, 0, none⟩ = some (.slice ad n cap) := by rw [PBX.out.blk.cell]; simp [HN.out]
  by_cases hlt : i < n
  ·have q0 : (0 : Int) ≤ (i : Int) := by omega
   have q1 : (i : Int) < (n : Int) := by omega
   obtain ⟨ab, ofs, rfl, hab, hra⟩ := ((HIN.out.ext BW.out).ext BX.out).read (by rw [← HN.out]; omega)
   obtain ⟨x, hx⟩ : ∃ x, xs[i]? = some x := ⟨_, List.getElem?_eq_getElem (by rw [← HN.out]; exact hlt)⟩
   have XOK := Lib.hid (HIN.out.ok i x hx)
   have XR : Hid (wr.rangeAt ab (ofs + i * 42) x.C) := Lib.hid (hra i x hx)
   have HX := Lib.hid hx
   have I1 := Lib.hid (I0.out.ext BX.out)
   clear hra hab hx
   go_wp2_with fail
   obtain ⟨_, _, hab0, hab, _⟩ := ((HIN.out.ext BW.out).ext BX.out).read (by rw [← HN.out]; omega)
   have HAB : Hid (ab < wr.heap.size) := Lib.hid (by cases hab0; exact hab)
   clear hab0 hab
   have hS0 : ∀ (listed : Array Bool) (f : Nat → Value), (∀ i, listed.getD i false = false) → Ex wr wr.drew := fun _ _ _ => (Below.refl wr.heap.size wr).drew
   obtain ⟨T, hT⟩ : ∃ T : List (Value → Prop), T = [(fun zz => zz = .pointer (some ⟨P, 0, none⟩)), (fun zz => zz = .pointer (some ⟨P, 0, none⟩)), (fun zz => zz = .pointer (some ⟨P, 0, none⟩)), (fun zz => zz = .slice (some ⟨ab, ofs, none⟩) n cap), (fun zz => zz = .int .i64 i), (fun zz => zz = .pointer (some ⟨ab, ofs + i * 42, none⟩)), (fun zz => zz = .pointer (some ⟨ab, ofs + i * 42, none⟩)), (fun zz => zz = digV x.id), (fun zz => zz = digV id), (fun zz => zz = .bool (decide (x.id = id)))] := ⟨_, rfl⟩
   refine wp_region_gen (JS T ([] : List (Nat × Nat)) (fun _ _ w => Ex wr w)) (by kernel_rfl) (by kernel_rfl) (by kernel_rfl) (fitB_spec (by kernel_rfl)) (fun listed f h => JS.start listed f h (hS0 listed f h)) ?_ ?_
   ·intro i o ho
    have hi : i < 10 := (Array.getElem?_eq_some_iff.1 ho).1
    have hi' : i = 0 ∨ i = 1 ∨ i = 2 ∨ i = 3 ∨ i = 4 ∨ i = 5 ∨ i = 6 ∨ i = 7 ∨ i = 8 ∨ i = 9 := by omega
    clear hi
    rcases hi' with rfl | rfl | rfl | rfl | rfl | rfl | rfl | rfl | rfl | rfl
    all_goals (simp only [List.getElem?_toArray, List.getElem?_cons_zero, List.getElem?_cons_succ, Option.some.injEq] at ho; subst ho; intro listed f a w2 hJ hsz hls hun hdep hout hlat; first | (rw [if_pos (by rfl)]; intro K hK) | skip)
    ·have q0 := hout 0 (outB_spec (by kernel_rfl))
     refine wp_mv _ rfl (hK _ _ ?_)
     rw [show a.eval (.tmp 0) = .pointer (some ⟨P, 0, none⟩) from q0]
     exact hJ.next (by rw [hls]; decide) (by rw [hT]; rfl) hJ.st (no_head (by decide))
    ·have q19 := hJ.iq hT (hdep ⟨0, .data⟩ (by simp) rfl) rfl _ rfl _ rfl
     clear hsz hdep hout hlat
     go_simp
     exact hK _ _ (hJ.next (by rw [hls]; decide) (by rw [hT]; first | rfl | exact int_eq (by omega) | exact int_eq (by rw [IntKind.wrap_i64]; omega) | exact congrArg Value.bool (decide_eq_false (by omega)) | exact congrArg Value.bool (decide_eq_true (by omega)) | exact congrArg (Value.int .u64) (by omega)) hJ.st (no_head (by decide)))
    ·have q20 := hJ.iq hT (hdep ⟨1, .data⟩ (by simp) rfl) rfl _ rfl _ rfl
     clear hsz hdep hout hlat
     go_simp
     exact hK _ _ (hJ.next (by rw [hls]; decide) (by rw [hT]; first | rfl | exact int_eq (by omega) | exact int_eq (by rw [IntKind.wrap_i64]; omega) | exact congrArg Value.bool (decide_eq_false (by omega)) | exact congrArg Value.bool (decide_eq_true (by omega)) | exact congrArg (Value.int .u64) (by omega)) hJ.st (no_head (by decide)))
    ·have q21 := hJ.iq hT (hdep ⟨2, .data⟩ (by simp) rfl) rfl _ rfl _ rfl
     have cc : w2.cell? ⟨P, 0, none⟩ = some (.slice (some ⟨ab, ofs, none⟩) n cap) := by rw [(PBX.out.ext hJ.st).blk.cell]; simp [HN.out]
     clear hsz hdep hout hlat
     go_simp
     exact hK _ _ (hJ.next (by rw [hls]; decide) (by rw [hT]; rfl) hJ.st (no_head (by decide)))
    ·have q9 := hout 9 (outB_spec (by kernel_rfl))
     refine wp_mv _ rfl (hK _ _ ?_)
     rw [show a.eval (.tmp 9) = .int .i64 i from q9]
     exact hJ.next (by rw [hls]; decide) (by rw [hT]; rfl) hJ.st (no_head (by decide))
    ·have q22 := hJ.iq hT (hdep ⟨3, .data⟩ (by simp) rfl) rfl _ rfl _ rfl
     have q23 := hJ.iq hT (hdep ⟨4, .data⟩ (by simp) rfl) rfl _ rfl _ rfl
     clear hsz hdep hout hlat
     go_simp
     exact hK _ _ (hJ.next (by rw [hls]; decide) (by rw [hT]; first | rfl | exact int_eq (by omega) | exact int_eq (by rw [IntKind.wrap_i64]; omega) | exact congrArg Value.bool (decide_eq_false (by omega)) | exact congrArg Value.bool (decide_eq_true (by omega)) | exact congrArg (Value.int .u64) (by omega)) hJ.st (no_head (by decide)))
    ·have q24 := hJ.iq hT (hdep ⟨5, .data⟩ (by simp) rfl) rfl _ rfl _ rfl
     clear hsz hdep hout hlat
     go_simp
     exact hK _ _ (hJ.next (by rw [hls]; decide) (by rw [hT]; first | rfl | exact int_eq (by omega) | exact int_eq (by rw [IntKind.wrap_i64]; omega) | exact congrArg Value.bool (decide_eq_false (by omega)) | exact congrArg Value.bool (decide_eq_true (by omega)) | exact congrArg (Value.int .u64) (by omega)) hJ.st (no_head (by decide)))
    ·have q25 := hJ.is hT (hdep ⟨6, .data⟩ (by simp) rfl) rfl _ rfl _ rfl
     exact ld_vid9 _ ab (ofs + i * 42) x XOK.out rfl q25 (fun j u hu => (Below.cell (p := ⟨ab, ofs + i * 42 + j, none⟩) hJ.st HAB.out).trans (XR.out j u hu)) (hK _ _ (hJ.next (by rw [hls]; decide) (by rw [hT]; rfl) hJ.st (no_head (by decide))))
    ·have q3 := hout 3 (outB_spec (by kernel_rfl))
     exact ld_idb _ _ id HIDL.out rfl q3 (I1.out.ext hJ.st) (hK _ _ (hJ.next (by rw [hls]; decide) (by rw [hT]; rfl) hJ.st (no_head (by decide))))
    have q26 := hJ.is hT (hdep ⟨7, .data⟩ (by simp) rfl) rfl _ rfl _ rfl
    have q27 := hJ.is hT (hdep ⟨8, .data⟩ (by simp) rfl) rfl _ rfl _ rfl
    exact wp_eql_id _ _ _ rfl x.id id XOK.out.idN HIDL.out q26 q27 (hK _ _ (hJ.next (by rw [hls]; decide) (by rw [hT]; rfl) hJ.st (no_head (by decide))))
   intro listed f w2 hall hJ
   have f9 : f 9 = .bool (decide (x.id = id)) := by
    have h := hJ.vals 9 (hall 9 (by simp))
    rw [hT] at h; exact h
   have hst := hJ.st
   simp only [putAll, Act.put, List.setIfInBounds_toArray, List.set_cons_zero, List.set_cons_succ, Nat.zero_add, Nat.reduceAdd]
   have xx : Ex wr w2 := hst
   rw [f9]
   clear f9
   clear hJ hall hT
   clear hst hS0
   replace PBX := Lib.hid (PBX.out.ext xx)
   replace XR : Hid (w2.rangeAt ab (ofs + i * 42) x.C) := Lib.hid (fun j u hu => (Below.cell (p := ⟨ab, ofs + i * 42 + j, none⟩) xx HAB.out).trans (XR.out j u hu))
   replace HAB := Lib.hid (Nat.lt_of_lt_of_le HAB.out (Below.size xx))
   replace I1 := Lib.hid (I1.out.ext xx)
   replace BX := Lib.hid (Ex.trans BX.out xx)
   clear xx c0
   by_cases hxi : x.id = id
   ·rw [decide_eq_true hxi]
    have HXI := Lib.hid hxi
    clear hxi
    go_wp2_with fail
    have hS0 : ∀ (listed : Array Bool) (f : Nat → Value), (∀ i, listed.getD i false = false) → Ex w2 w2.drew := fun _ _ _ => (Below.refl w2.heap.size w2).drew
    obtain ⟨T, hT⟩ : ∃ T : List (Value → Prop), T = [(fun zz => zz = .pointer (some ⟨P, 0, none⟩)), (fun zz => zz = .pointer (some ⟨P, 0, none⟩)), (fun zz => zz = .pointer (some ⟨P, 0, none⟩)), (fun zz => zz = .slice (some ⟨ab, ofs, none⟩) n cap), (fun zz => zz = .int .i64 i), (fun zz => zz = .pointer (some ⟨ab, ofs + i * 42, none⟩)), (fun zz => zz = .pointer (some ⟨ab, ofs + i * 42, none⟩)), (fun zz => zz = digV x.id), (fun zz => zz = .int .i64 (Sm.shV x.id)), (fun zz => zz = digV id), (fun zz => zz = .int .i64 (Sm.shV id)), (fun zz => zz = .bool (decide (Sm.shV x.id = Sm.shV id)))] := ⟨_, rfl⟩
    refine wp_region_gen (JS T ([] : List (Nat × Nat)) (fun _ _ w => Ex w2 w)) (by kernel_rfl) (by kernel_rfl) (by kernel_rfl) (fitB_spec (by kernel_rfl)) (fun listed f h => JS.start listed f h (hS0 listed f h)) ?_ ?_
    ·intro i o ho
     have hi : i < 12 := (Array.getElem?_eq_some_iff.1 ho).1
     have hi' : i = 0 ∨ i = 1 ∨ i = 2 ∨ i = 3 ∨ i = 4 ∨ i = 5 ∨ i = 6 ∨ i = 7 ∨ i = 8 ∨ i = 9 ∨ i = 10 ∨ i = 11 := by omega
     clear hi
     rcases hi' with rfl | rfl | rfl | rfl | rfl | rfl | rfl | rfl | rfl | rfl | rfl | rfl
     all_goals (simp only [List.getElem?_toArray, List.getElem?_cons_zero, List.getElem?_cons_succ, Option.some.injEq] at ho; subst ho; intro listed f a w3 hJ hsz hls hun hdep hout hlat; first | (rw [if_pos (by rfl)]; intro K hK) | skip)
     ·have q0 := hout 0 (outB_spec (by kernel_rfl))
      refine wp_mv _ rfl (hK _ _ ?_)
      rw [show a.eval (.tmp 0) = .pointer (some ⟨P, 0, none⟩) from q0]
      exact hJ.next (by rw [hls]; decide) (by rw [hT]; rfl) hJ.st (no_head (by decide))
     ·have q30 := hJ.iq hT (hdep ⟨0, .data⟩ (by simp) rfl) rfl _ rfl _ rfl
      clear hsz hdep hout hlat
      go_simp
      exact hK _ _ (hJ.next (by rw [hls]; decide) (by rw [hT]; first | rfl | exact int_eq (by omega) | exact int_eq (by rw [IntKind.wrap_i64]; omega) | exact congrArg Value.bool (decide_eq_false (by omega)) | exact congrArg Value.bool (decide_eq_true (by omega)) | exact congrArg (Value.int .u64) (by omega)) hJ.st (no_head (by decide)))
     ·have q31 := hJ.iq hT (hdep ⟨1, .data⟩ (by simp) rfl) rfl _ rfl _ rfl
      clear hsz hdep hout hlat
      go_simp
      exact hK _ _ (hJ.next (by rw [hls]; decide) (by rw [hT]; first | rfl | exact int_eq (by omega) | exact int_eq (by rw [IntKind.wrap_i64]; omega) | exact congrArg Value.bool (decide_eq_false (by omega)) | exact congrArg Value.bool (decide_eq_true (by omega)) | exact congrArg (Value.int .u64) (by omega)) hJ.st (no_head (by decide)))
     ·have q32 := hJ.iq hT (hdep ⟨2, .data⟩ (by simp) rfl) rfl _ rfl _ rfl
      have cc : w3.cell? ⟨P, 0, none⟩ = some (.slice (some ⟨ab, ofs, none⟩) n cap) := by rw [(PBX.out.ext hJ.st).blk.cell]; simp [HN.out]
      clear hsz hdep hout hlat
      go_simp
      exact hK _ _ (hJ.next (by rw [hls]; decide) (by rw [hT]; rfl) hJ.st (no_head (by decide)))
     ·have q9 := hout 9 (outB_spec (by kernel_rfl))
      refine wp_mv _ rfl (hK _ _ ?_)
      rw [show a.eval (.tmp 9) = .int .i64 i from q9]
      exact hJ.next (by rw [hls]; decide) (by rw [hT]; rfl) hJ.st (no_head (by decide))
     ·have q33 := hJ.iq hT (hdep ⟨3, .data⟩ (by simp) rfl) rfl _ rfl _ rfl
      have q34 := hJ.iq hT (hdep ⟨4, .data⟩ (by simp) rfl) rfl _ rfl _ rfl
      clear hsz hdep hout hlat
      go_simp
      exact hK _ _ (hJ.next (by rw [hls]; decide) (by rw [hT]; first | rfl | exact int_eq (by omega) | exact int_eq (by rw [IntKind.wrap_i64]; omega) | exact congrArg Value.bool (decide_eq_false (by omega)) | exact congrArg Value.bool (decide_eq_true (by omega)) | exact congrArg (Value.int .u64) (by omega)) hJ.st (no_head (by decide)))
     ·have q35 := hJ.iq hT (hdep ⟨5, .data⟩ (by simp) rfl) rfl _ rfl _ rfl
      clear hsz hdep hout hlat
      go_simp
      exact hK _ _ (hJ.next (by rw [hls]; decide) (by rw [hT]; first | rfl | exact int_eq (by omega) | exact int_eq (by rw [IntKind.wrap_i64]; omega) | exact congrArg Value.bool (decide_eq_false (by omega)) | exact congrArg Value.bool (decide_eq_true (by omega)) | exact congrArg (Value.int .u64) (by omega)) hJ.st (no_head (by decide)))
     ·have q36 := hJ.is hT (hdep ⟨6, .data⟩ (by simp) rfl) rfl _ rfl _ rfl
      exact ld_vid9 _ ab (ofs + i * 42) x XOK.out rfl q36 (fun j u hu => (Below.cell (p := ⟨ab, ofs + i * 42 + j, none⟩) hJ.st HAB.out).trans (XR.out j u hu)) (hK _ _ (hJ.next (by rw [hls]; decide) (by rw [hT]; rfl) hJ.st (no_head (by decide))))
     ·have q37 := hJ.iq hT (hdep ⟨7, .data⟩ (by simp) rfl) rfl _ rfl _ rfl
      clear hsz hdep hout hlat
      go_simp
      refine (Sm.rof_any x.id XOK.out.idN w3).mono ?_
      rintro e wq ⟨rfl, xq⟩
      exact hK _ _ (hJ.next (by rw [hls]; decide) (by rw [hT]; rfl) (Ex.trans hJ.st xq) (no_head (by decide)))
     ·have q3 := hout 3 (outB_spec (by kernel_rfl))
      exact ld_idb _ _ id HIDL.out rfl q3 (I1.out.ext hJ.st) (hK _ _ (hJ.next (by rw [hls]; decide) (by rw [hT]; rfl) hJ.st (no_head (by decide))))
     ·have q39 := hJ.iq hT (hdep ⟨9, .data⟩ (by simp) rfl) rfl _ rfl _ rfl
      clear hsz hdep hout hlat
      go_simp
      refine (Sm.rof_any id HIDL.out w3).mono ?_
      rintro e wq ⟨rfl, xq⟩
      exact hK _ _ (hJ.next (by rw [hls]; decide) (by rw [hT]; rfl) (Ex.trans hJ.st xq) (no_head (by decide)))
     have q38 := hJ.is hT (hdep ⟨8, .data⟩ (by simp) rfl) rfl _ rfl _ rfl
     have q40 := hJ.is hT (hdep ⟨10, .data⟩ (by simp) rfl) rfl _ rfl _ rfl
     exact wp_eql_i64 _ _ _ rfl (Sm.shV x.id) (Sm.shV id) q38 q40 (hK _ _ (hJ.next (by rw [hls]; decide) (by rw [hT]; rfl) hJ.st (no_head (by decide))))
    intro listed f w3 hall hJ
    have f11 : f 11 = .bool (decide (Sm.shV x.id = Sm.shV id)) := by
     have h := hJ.vals 11 (hall 11 (by simp))
     rw [hT] at h; exact h
    have hst := hJ.st
    simp only [putAll, Act.put, List.setIfInBounds_toArray, List.set_cons_zero, List.set_cons_succ, Nat.zero_add, Nat.reduceAdd]
    have xx : Ex w2 w3 := hst
    rw [f11]
    clear f11
    clear hJ hall hT
    clear hst hS0
    replace BX := Lib.hid (Ex.trans BX.out xx)
    clear xx XR HAB I1 PBX
    have hct := cnt_step (id := id) HX.out
    have hcl : cntS (xs.take i) id ≤ i := by unfold cntS; exact Nat.le_trans List.countP_le_length (by rw [List.length_take]; omega)
    have hncap : n ≤ 9223372036854775807 := by omega
    by_cases hs : Sm.shV x.id = Sm.shV id
    ·rw [decide_eq_true hs]
     rw [if_pos hs] at hct
     go_wp2_with ((with_reducible refine so0 ?_ ?_); (focus rfl))
     go_roundw
     case rel => exact ⟨i + 1, (i : Int), by omega, by go_num, rfl, by first | (rw [hct]; done) | (rw [hct]; go_num) | (rw [hct]; push_cast; rfl), Lib.hid (Or.inr ⟨i, x, rfl, by omega, HX.out, HXI.out⟩), BX⟩
     case measure => simp [intOf]; omega
    rw [decide_eq_false hs]
    rw [if_neg hs] at hct
    go_wp2_with ((with_reducible refine so0 ?_ ?_); (focus rfl))
    go_roundw
    case rel => exact ⟨i + 1, (i : Int), by omega, by go_num, rfl, by first | (rw [hct]; done) | (rw [hct]; go_num) | (rw [hct]; push_cast; rfl), Lib.hid (Or.inr ⟨i, x, rfl, by omega, HX.out, HXI.out⟩), BX⟩
    case measure => simp [intOf]; omega
   rw [decide_eq_false hxi]
   have HXI := Lib.hid hxi
   clear hxi
   go_wp2_with fail
   have hS0 : ∀ (listed : Array Bool) (f : Nat → Value), (∀ i, listed.getD i false = false) → Ex w2 w2.drew := fun _ _ _ => (Below.refl w2.heap.size w2).drew
   obtain ⟨T, hT⟩ : ∃ T : List (Value → Prop), T = [(fun zz => zz = .pointer (some ⟨P, 0, none⟩)), (fun zz => zz = .pointer (some ⟨P, 0, none⟩)), (fun zz => zz = .pointer (some ⟨P, 0, none⟩)), (fun zz => zz = .slice (some ⟨ab, ofs, none⟩) n cap), (fun zz => zz = .int .i64 i), (fun zz => zz = .pointer (some ⟨ab, ofs + i * 42, none⟩)), (fun zz => zz = .pointer (some ⟨ab, ofs + i * 42, none⟩)), (fun zz => zz = digV x.id), (fun zz => zz = .int .i64 (Sm.shV x.id)), (fun zz => zz = digV id), (fun zz => zz = .int .i64 (Sm.shV id)), (fun zz => zz = .bool (decide (Sm.shV x.id = Sm.shV id)))] := ⟨_, rfl⟩
   refine wp_region_gen (JS T ([] : List (Nat × Nat)) (fun _ _ w => Ex w2 w)) (by kernel_rfl) (by kernel_rfl) (by kernel_rfl) (fitB_spec (by kernel_rfl)) (fun listed f h => JS.start listed f h (hS0 listed f h)) ?_ ?_
   ·intro i o ho
    have hi : i < 12 := (Array.getElem?_eq_some_iff.1 ho).1
    have hi' : i = 0 ∨ i = 1 ∨ i = 2 ∨ i = 3 ∨ i = 4 ∨ i = 5 ∨ i = 6 ∨ i = 7 ∨ i = 8 ∨ i = 9 ∨ i = 10 ∨ i = 11 := by omega
    clear hi
    rcases hi' with rfl | rfl | rfl | rfl | rfl | rfl | rfl | rfl | rfl | rfl | rfl | rfl
    all_goals (simp only [List.getElem?_toArray, List.getElem?_cons_zero, List.getElem?_cons_succ, Option.some.injEq] at ho; subst ho; intro listed f a w3 hJ hsz hls hun hdep hout hlat; first | (rw [if_pos (by rfl)]; intro K hK) | skip)
    ·have q0 := hout 0 (outB_spec (by kernel_rfl))
     refine wp_mv _ rfl (hK _ _ ?_)
     rw [show a.eval (.tmp 0) = .pointer (some ⟨P, 0, none⟩) from q0]
     exact hJ.next (by rw [hls]; decide) (by rw [hT]; rfl) hJ.st (no_head (by decide))
    ·have q30 := hJ.iq hT (hdep ⟨0, .data⟩ (by simp) rfl) rfl _ rfl _ rfl
     clear hsz hdep hout hlat
     go_simp
     exact hK _ _ (hJ.next (by rw [hls]; decide) (by rw [hT]; first | rfl | exact int_eq (by omega) | exact int_eq (by rw [IntKind.wrap_i64]; omega) | exact congrArg Value.bool (decide_eq_false (by omega)) | exact congrArg Value.bool (decide_eq_true (by omega)) | exact congrArg (Value.int .u64) (by omega)) hJ.st (no_head (by decide)))
    ·have q31 := hJ.iq hT (hdep ⟨1, .data⟩ (by simp) rfl) rfl _ rfl _ rfl
     clear hsz hdep hout hlat
     go_simp
     exact hK _ _ (hJ.next (by rw [hls]; decide) (by rw [hT]; first | rfl | exact int_eq (by omega) | exact int_eq (by rw [IntKind.wrap_i64]; omega) | exact congrArg Value.bool (decide_eq_false (by omega)) | exact congrArg Value.bool (decide_eq_true (by omega)) | exact congrArg (Value.int .u64) (by omega)) hJ.st (no_head (by decide)))
    ·have q32 := hJ.iq hT (hdep ⟨2, .data⟩ (by simp) rfl) rfl _ rfl _ rfl
     have cc : w3.cell? ⟨P, 0, none⟩ = some (.slice (some ⟨ab, ofs, none⟩) n cap) := by rw [(PBX.out.ext hJ.st).blk.cell]; simp [HN.out]
     clear hsz hdep hout hlat
     go_simp
     exact hK _ _ (hJ.next (by rw [hls]; decide) (by rw [hT]; rfl) hJ.st (no_head (by decide)))
    ·have q9 := hout 9 (outB_spec (by kernel_rfl))
     refine wp_mv _ rfl (hK _ _ ?_)
     rw [show a.eval (.tmp 9) = .int .i64 i from q9]
     exact hJ.next (by rw [hls]; decide) (by rw [hT]; rfl) hJ.st (no_head (by decide))
    ·have q33 := hJ.iq hT (hdep ⟨3, .data⟩ (by simp) rfl) rfl _ rfl _ rfl
     have q34 := hJ.iq hT (hdep ⟨4, .data⟩ (by simp) rfl) rfl _ rfl _ rfl
     clear hsz hdep hout hlat
     go_simp
     exact hK _ _ (hJ.next (by rw [hls]; decide) (by rw [hT]; first | rfl | exact int_eq (by omega) | exact int_eq (by rw [IntKind.wrap_i64]; omega) | exact congrArg Value.bool (decide_eq_false (by omega)) | exact congrArg Value.bool (decide_eq_true (by omega)) | exact congrArg (Value.int .u64) (by omega)) hJ.st (no_head (by decide)))
    ·have q35 := hJ.iq hT (hdep ⟨5, .data⟩ (by simp) rfl) rfl _ rfl _ rfl
     clear hsz hdep hout hlat
     go_simp
     exact hK _ _ (hJ.next (by rw [hls]; decide) (by rw [hT]; first | rfl | exact int_eq (by omega) | exact int_eq (by rw [IntKind.wrap_i64]; omega) | exact congrArg Value.bool (decide_eq_false (by omega)) | exact congrArg Value.bool (decide_eq_true (by omega)) | exact congrArg (Value.int .u64) (by omega)) hJ.st (no_head (by decide)))
    ·have q36 := hJ.is hT (hdep ⟨6, .data⟩ (by simp) rfl) rfl _ rfl _ rfl
     exact ld_vid9 _ ab (ofs + i * 42) x XOK.out rfl q36 (fun j u hu => (Below.cell (p := ⟨ab, ofs + i * 42 + j, none⟩) hJ.st HAB.out).trans (XR.out j u hu)) (hK _ _ (hJ.next (by rw [hls]; decide) (by rw [hT]; rfl) hJ.st (no_head (by decide))))
    ·have q37 := hJ.iq hT (hdep ⟨7, .data⟩ (by simp) rfl) rfl _ rfl _ rfl
     clear hsz hdep hout hlat
     go_simp
     refine (Sm.rof_any x.id XOK.out.idN w3).mono ?_
     rintro e wq ⟨rfl, xq⟩
     exact hK _ _ (hJ.next (by rw [hls]; decide) (by rw [hT]; rfl) (Ex.trans hJ.st xq) (no_head (by decide)))
    ·have q3 := hout 3 (outB_spec (by kernel_rfl))
     exact ld_idb _ _ id HIDL.out rfl q3 (I1.out.ext hJ.st) (hK _ _ (hJ.next (by rw [hls]; decide) (by rw [hT]; rfl) hJ.st (no_head (by decide))))
    ·have q39 := hJ.iq hT (hdep ⟨9, .data⟩ (by simp) rfl) rfl _ rfl _ rfl
     clear hsz hdep hout hlat
     go_simp
     refine (Sm.rof_any id HIDL.out w3).mono ?_
     rintro e wq ⟨rfl, xq⟩
     exact hK _ _ (hJ.next (by rw [hls]; decide) (by rw [hT]; rfl) (Ex.trans hJ.st xq) (no_head (by decide)))
    have q38 := hJ.is hT (hdep ⟨8, .data⟩ (by simp) rfl) rfl _ rfl _ rfl
    have q40 := hJ.is hT (hdep ⟨10, .data⟩ (by simp) rfl) rfl _ rfl _ rfl
    exact wp_eql_i64 _ _ _ rfl (Sm.shV x.id) (Sm.shV id) q38 q40 (hK _ _ (hJ.next (by rw [hls]; decide) (by rw [hT]; rfl) hJ.st (no_head (by decide))))
   intro listed f w3 hall hJ
   have f11 : f 11 = .bool (decide (Sm.shV x.id = Sm.shV id)) := by
    have h := hJ.vals 11 (hall 11 (by simp))
    rw [hT] at h; exact h
   have hst := hJ.st
   simp only [putAll, Act.put, List.setIfInBounds_toArray, List.set_cons_zero, List.set_cons_succ, Nat.zero_add, Nat.reduceAdd]
   have xx : Ex w2 w3 := hst
   rw [f11]
   clear f11
   clear hJ hall hT
   clear hst hS0
   replace BX := Lib.hid (Ex.trans BX.out xx)
   clear xx XR HAB I1 PBX
   have hct := cnt_step (id := id) HX.out
   have hcl : cntS (xs.take i) id ≤ i := by unfold cntS; exact Nat.le_trans List.countP_le_length (by rw [List.length_take]; omega)
   have hncap : n ≤ 9223372036854775807 := by omega
   by_cases hs : Sm.shV x.id = Sm.shV id
   ·rw [decide_eq_true hs]
    rw [if_pos hs] at hct
    go_wp2_with ((with_reducible refine so0 ?_ ?_); (focus rfl))
    go_roundw
    case rel => exact ⟨i + 1, k, by omega, by go_num, rfl, by first | (rw [hct]; done) | (rw [hct]; go_num) | (rw [hct]; push_cast; rfl), Lib.hid (by
     rcases HKK.out with ⟨e, h⟩ | ⟨j, y, e, h1, h2⟩
     ·refine Or.inl ⟨e, fun y hy => ?_⟩
      rw [List.take_add_one, HX.out, List.mem_append] at hy
      rcases hy with hy | hy
      ·exact h y hy
      simp at hy; rw [hy]; exact HXI.out
     exact Or.inr ⟨j, y, e, by omega, h2⟩), BX⟩
    case measure => simp [intOf]; omega
   rw [decide_eq_false hs]
   rw [if_neg hs] at hct
   go_wp2_with ((with_reducible refine so0 ?_ ?_); (focus rfl))
   go_roundw
   case rel => exact ⟨i + 1, k, by omega, by go_num, rfl, by first | (rw [hct]; done) | (rw [hct]; go_num) | (rw [hct]; push_cast; rfl), Lib.hid (by
    rcases HKK.out with ⟨e, h⟩ | ⟨j, y, e, h1, h2⟩
    ·refine Or.inl ⟨e, fun y hy => ?_⟩
     rw [List.take_add_one, HX.out, List.mem_append] at hy
     rcases hy with hy | hy
     ·exact h y hy
     simp at hy; rw [hy]; exact HXI.out
    exact Or.inr ⟨j, y, e, by omega, h2⟩), BX⟩
   case measure => simp [intOf]; omega
  obtain rfl : i = n := by omega
  have q1 : ¬ (i : Int) < (i : Int) := by omega
  have htk : xs.take i = xs := List.take_of_length_le (by rw [← HN.out]; exact Nat.le_refl _)
  rw [htk]
  have HKE := HKK.out
  rw [htk] at HKE
  clear htk HKK
  rcases HKE with ⟨rfl, hno⟩ | ⟨j, x, rfl, hj, hx, hxi⟩
  ·go_wp2_with ((with_reducible refine so0 ?_ ?_); (focus rfl))
   (with_reducible refine at9 ?_ ?_); (focus go_simp); refine fun K0 hK => wp_build _ _ rfl _ built_zero (hK _ _ ?_)
   clear hK
   go_wp2_with ((with_reducible refine so0 ?_ ?_); (focus rfl))
   have XK := Lib.hid zeroVt_ok
   (with_reducible refine at9 ?_ ?_); (focus go_simp); refine fun K0 hK => st_v _ _ (B + 1) zeroVt rfl rfl rfl XK.out (Z0.out.ext BX.out).2 (by rw [List.size_toArray, Vt.len (Z0.out.ext BX.out).1]) (fun w5 hd ho => hK _ _ ?_)
   clear hK
   have BZ := ho.below w.heap.size (by rw [← HB.out]; omega) w (Ex.trans BW.out BX.out)
   go_wp2_with fail
   exact bodyPost_ret (res_vii rfl _ _ (B + 1) rfl zeroVt hd) rfl ⟨zeroVt, _, rfl, Or.inl ⟨rfl, rfl, hno⟩, BZ⟩
  have q2 : ¬ (j : Int) < 0 := by omega
  have q3 : (0 : Int) ≤ (j : Int) := by omega
  have q4 : (j : Int) < (i : Int) := by omega
  obtain ⟨ab, ofs, rfl, hab, hra⟩ := ((HIN.out.ext BW.out).ext BX.out).read (by rw [← HN.out]; omega)
  have XK := Lib.hid (HIN.out.ok j x hx)
  have XR : Hid (wr.rangeAt ab (ofs + j * 42) x.C) := Lib.hid (hra j x hx)
  have HX := Lib.hid (And.intro hx hxi)
  clear hra hab hx hxi
  go_wp2_with ((with_reducible refine so0 ?_ ?_); (focus rfl))
  (with_reducible refine at9 ?_ ?_); (focus go_simp); refine fun K0 hK => ld_vr _ ab (ofs + j * 42) x XK.out rfl rfl XR.out (hK _ _ ?_)
  clear hK
  go_wp2_with ((with_reducible refine so0 ?_ ?_); (focus rfl))
  (with_reducible refine at9 ?_ ?_); (focus go_simp); refine fun K0 hK => st_v _ _ (B + 1) x rfl rfl rfl XK.out (Z0.out.ext BX.out).2 (by rw [List.size_toArray, Vt.len (Z0.out.ext BX.out).1]) (fun w5 hd ho => hK _ _ ?_)
  clear hK
  have BZ := ho.below w.heap.size (by rw [← HB.out]; omega) w (Ex.trans BW.out BX.out)
  go_wp2_with fail
  exact bodyPost_ret (res_vii rfl _ _ (B + 1) rfl x hd) rfl ⟨x, _, rfl, Or.inr ⟨j, rfl, HX.out.1, HX.out.2⟩, BZ⟩
end Go.Proofs.Ytmjfnpmnhehnkaa
