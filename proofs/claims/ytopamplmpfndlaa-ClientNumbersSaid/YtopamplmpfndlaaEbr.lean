/- Ch, Ci, Cj, Ck -/
import Derived.Test.YtopamplmpfndlaaEbe
set_option maxRecDepth 100000
set_option maxHeartbeats 16000000
namespace Go.Proofs.Ytopamplmpfndlaa.Cl
open Go.RowKit
def okP (L : List UInt8) : Bool := (!(r8 L).2 && decide ((r8 L).1 = L.length)) && Rcright (repP L)
def zeroRc : Rc := ⟨0, [0, 0, 0, 0], 0, 0, [], 0, 0⟩
def toRep (L : List UInt8) : Rc × Int := if okP L = true then (repP L, 0) else (zeroRc, 12)
def RepEPost (c : Rc) (E : Int) (w : World) (e : Ending) (w' : World) : Prop := ∃ y : Rt, e = .returned (.tuple #[y.V, .int .i64 E]) ∧ (y.Ok ∧ PN w' 0 y.sec) ∧ y.ct = c ∧ Ex w w'
theorem built_zrep : Try.prog.built 29 [] = some zeroRt.C.toArray := by kernel_rfl
theorem torep_any (p : Pt) (w : World) (hp : p.In w w.heap.size) (hbig : p.l.length ≤ 9223372036854775807) : Calls Try.prog 64 #[p.V] w (RepEPost (toRep p.l).1 (toRep p.l).2 w) := by
 obtain ⟨m, hm⟩ : ∃ m, m = p.l.length := ⟨_, rfl⟩
 have hpv : p.V = .slice p.ad m p.cap := by unfold Pt.V; rw [hm]
 have R0 : Hid (RdI ((w.alloc (.cells zeroRt.C.toArray 29)).alloc (.cells #[.slice p.ad m p.cap, .int .i64 0, .bool false] 158)) (w.heap.size + 1) p (0, false)) := Hi ⟨by rw [← hpv]; exact Bk.new (by simp) _ _, Nat.zero_le _, (hp.keep (show Below w.heap.size w ((w.alloc (.cells zeroRt.C.toArray 29)).alloc (.cells #[.slice p.ad m p.cap, .int .i64 0, .bool false] 158)) from Ex.trans (Ex.alloc w _) (Ex.alloc _ _))).more (Nat.le_succ _), hbig⟩
 have Y0 : Hid (RB ((w.alloc (.cells zeroRt.C.toArray 29)).alloc (.cells #[.slice p.ad m p.cap, .int .i64 0, .bool false] 158)) w.heap.size zeroRt) := Hi ⟨zeroRt_ok, (Bk.new rfl _ _).more _⟩
 have BW : Hid (Ex w ((w.alloc (.cells zeroRt.C.toArray 29)).alloc (.cells #[.slice p.ad m p.cap, .int .i64 0, .bool false] 158))) := Hi (Ex.trans (Ex.alloc w _) (Ex.alloc _ _))
 obtain ⟨b1, hb1⟩ : ∃ b, b = (!(r8 p.l).2 && decide ((r8 p.l).1 = p.l.length)) := ⟨_, rfl⟩
 obtain ⟨b2, hb2⟩ : ∃ b, b = Rcright (repP p.l) := ⟨_, rfl⟩
 have HT : Hid (toRep p.l = if (b1 && b2) = true then (repP p.l, 0) else (zeroRc, 12)) := Hi (by rw [hb1, hb2]; rfl)
 have H1 := Hi hb1
 have H2 := Hi hb2
 rw [hpv]
 clear hpv hm hp hbig hb1 hb2
 go_enter Try.func64, Try.ntmps64
 go_wp2_with ((with_reducible refine stop_big ?_ ?_); (focus rfl))
 change Calls _ _ _ ((w.alloc (.cells zeroRt.C.toArray 29)).alloc (.cells #[.slice p.ad m p.cap, .int .i64 0, .bool false] 158)) _
 generalize ((w.alloc (.cells zeroRt.C.toArray 29)).alloc (.cells #[.slice p.ad m p.cap, .int .i64 0, .bool false] 158)) = z0 at R0 Y0 BW ⊢
 obtain ⟨g, hg⟩ : ∃ g, g = w.heap.size := ⟨_, rfl⟩
 have HG := Hi hg
 rw [← hg] at R0 Y0 ⊢
 clear hg
 have SZ := Hi R0.out.blk.lt
 refine (reply_any (g + 1) p z0 R0.out).mono ?_
 rintro e w1 ⟨y, rfl, yok, yc, yn, h1, m1⟩
 replace BW := Hi (Md.ex m1 BW.out (by have := HG.out; omega))
 replace Y0 := Hi (m1.rb Y0.out (by omega))
 replace R0 := Hi h1
 have YN := Hi yn
 have YC := Hi yc
 have YO := Hi yok
 clear yok yc yn h1 m1
 go_wp2_with ((with_reducible refine stop_big ?_ ?_); (focus rfl))
 have SW : Hid (g + 1 < w1.heap.size) := Hi R0.out.blk.lt
 obtain ⟨i, hi⟩ : ∃ i, i = w1.heap.size := ⟨_, rfl⟩
 refine at9 (by go_simp) fun K0 hK => st_r _ _ w1.heap.size y rfl rfl rfl YO.out (Bk.new rfl _ _) (by rfl) (fun w3 hd ho => hK _ _ ?_)
 clear hK
 have x3 : Ex w1 w3 := ho.below w1.heap.size (Nat.le_refl _) w1 (Ex.alloc w1 _)
 replace BW := Hi (Ex.trans BW.out x3)
 replace Y0 := Hi (Y0.out.ext x3)
 replace R0 := Hi (R0.out.ext x3)
 replace YN := Hi (YN.out.ext x3)
 have YI := Hi hd
 rw [← hi] at YI ⊢
 have HI := Hi hi
 clear hi hd ho x3
 go_wp2_with ((with_reducible refine stop_big ?_ ?_); (focus rfl))
 refine (whole_any (g + 1) p _ w3 R0.out).mono ?_
 rintro e w4 ⟨rfl, x4⟩
 replace BW := Hi (Ex.trans BW.out x4)
 replace Y0 := Hi (Y0.out.ext x4)
 replace YN := Hi (YN.out.ext x4)
 replace YI := Hi (YI.out.ext x4)
 rw [← H1.out]
 clear x4 R0
 cases b1
 ·skip
  go_wp2_with ((with_reducible refine stop_big ?_ ?_); (focus rfl))
  (first | ((with_reducible refine at8 ?_ ?_); (focus (go_simp; done)); go_wp2_with ((with_reducible refine stop_big ?_ ?_); (focus rfl))) | skip)
  go_wp2_with ((with_reducible refine stop_big ?_ ?_); (focus rfl))
  refine at9 (by go_simp) fun K0 hK => st_r _ _ g zeroRt rfl rfl (by first | rfl | skip) zeroRt_ok Y0.out.2 (by rw [List.size_toArray, Rt.len Y0.out.1]) (fun w5 hd ho => hK _ _ ?_)
  clear hK
  replace BW := Hi (ho.below w.heap.size (by have := HG.out; omega) _ BW.out)
  have YD := Hi hd
  clear hd ho
  go_wp2_with fail
  exact bodyPost_ret (res_r2 rfl _ _ g rfl zeroRt YD.out) rfl ⟨zeroRt, by rw [HT.out]; rfl, ⟨zeroRt_ok, nilB_pn _ _⟩, by rw [HT.out]; rfl, BW.out⟩
 skip
 go_wp2_with ((with_reducible refine stop_big ?_ ?_); (focus rfl))
 refine at9 (by go_simp) fun K0 hK => ld_r _ i y rfl rfl YI.out (hK _ _ ?_)
 clear hK
 go_wp2_with ((with_reducible refine stop_big ?_ ?_); (focus rfl))
 refine (rpright_any y _ ⟨YO.out, YN.out.1⟩).mono ?_
 rintro e w6 ⟨rfl, x6⟩
 replace BW := Hi (Ex.trans BW.out x6)
 replace Y0 := Hi (Y0.out.ext x6)
 replace YN := Hi (YN.out.ext x6)
 replace YI := Hi (YI.out.ext x6)
 rw [YC.out, ← H2.out]
 clear x6
 cases b2
 ·skip
  go_wp2_with ((with_reducible refine stop_big ?_ ?_); (focus rfl))
  refine at9 (by go_simp) fun K0 hK => st_r _ _ g zeroRt rfl rfl (by first | rfl | skip) zeroRt_ok Y0.out.2 (by rw [List.size_toArray, Rt.len Y0.out.1]) (fun w5 hd ho => hK _ _ ?_)
  clear hK
  replace BW := Hi (ho.below w.heap.size (by have := HG.out; omega) _ BW.out)
  have YD := Hi hd
  clear hd ho
  go_wp2_with fail
  exact bodyPost_ret (res_r2 rfl _ _ g rfl zeroRt YD.out) rfl ⟨zeroRt, by rw [HT.out]; rfl, ⟨zeroRt_ok, nilB_pn _ _⟩, by rw [HT.out]; rfl, BW.out⟩
 skip
 go_wp2_with ((with_reducible refine stop_big ?_ ?_); (focus rfl))
 refine at9 (by go_simp) fun K0 hK => ld_r _ i y rfl rfl YI.out (hK _ _ ?_)
 clear hK
 go_wp2_with ((with_reducible refine stop_big ?_ ?_); (focus rfl))
 refine at9 (by go_simp) fun K0 hK => st_r _ _ g y rfl rfl rfl YO.out Y0.out.2 (by rw [List.size_toArray, Rt.len Y0.out.1]) (fun w5 hd ho => hK _ _ ?_)
 clear hK
 replace YN := Hi (YN.out.onlyT ho Y0.out.2 (by decide))
 replace BW := Hi (ho.below w.heap.size (by have := HG.out; omega) _ BW.out)
 have YD := Hi hd
 clear hd ho
 go_wp2_with fail
 exact bodyPost_ret (res_r2 rfl _ _ g rfl y YD.out) rfl ⟨y, by rw [HT.out]; rfl, ⟨YO.out, YN.out.less (Nat.zero_le _)⟩, by rw [HT.out, YC.out]; rfl, BW.out⟩
end Go.Proofs.Ytopamplmpfndlaa.Cl
namespace Go.Proofs.Ytopamplmpfndlaa.Cl
open Go.RowKit
theorem stop_mk {P : Program} {ops : Array Oper} {rest : List Oper} {d : Option Tmp} {t2 : TypeId} {pos : String} {af : Array Edge} {g : Option (Nat × Bool)} {a : Act} {w : World} {Q : Exit → Act → World → Prop} {t : TypeId} {x y : Operand} (k : Stop (wpList P ops Q ({ dst := d, op := .makeSlice t x y, type := t2, pos := pos, after := af, guard := g } :: rest) a w)) : wpList P ops Q ({ dst := d, op := .makeSlice t x y, type := t2, pos := pos, after := af, guard := g } :: rest) a w := k.go
theorem made_zeroP (n : Nat) : (madeCells (Value.int .u8 0).cells (n * 1)).toList = Lib.byteCells (List.replicate n 0) := by
 rw [Nat.mul_one]
 show (madeCells #[Value.int .u8 0] n).toList = _
 rw [toList_madeCells_one]; simp [Lib.byteCells]
theorem Try.infoU8 : (Try.prog.info? 5).map (fun i => (i.zero, i.size, i.bytes)) = some (some (.int .u8 0), 1, 1) := by kernel_rfl
theorem wp_mkP {o : Oper} {a : Act} {w : World} {K : Act → World → Prop} {Q : Exit → Act → World → Prop} (x y : Operand) (ho : o.op = .makeSlice 23 x y) (n : Nat) (hx : a.eval x = .int .i64 n) (hy : a.eval y = .int .i64 n) (hn : n ≤ 100000)
  (h : ∀ w', Many w' 5 n (Lib.byteCells (List.replicate n 0)) (.slice (some ⟨w.heap.size, 0, none⟩) n n) → Ex w w' → K (a.put o.dst (.slice (some ⟨w.heap.size, 0, none⟩) n n)) w') : o.wp Try.prog a w K Q := by
 obtain ⟨i0, hi0, hz0, hz1, hz2⟩ := info_parts Try.infoU8
 obtain ⟨w', hr, h1, h2⟩ := run_make_full (P := Try.prog) w w.heap.size 23 5 i0 (.int .u8 0) 1 Try.underlying23 hi0 hz0 hz1 .i64 .i64 n (by rw [hz2]; omega) (by unfold maxLen; omega) (Nat.le_refl _)
 rw [made_zeroP] at h1
 unfold Oper.wp execOp
 simp only [ho, hx, hy, Sem.run_bind, hr]
 refine h w' ?_ ((Below.refl _ _).grown h2 (Nat.le_refl _) (fun k hk => by cases hk))
 obtain ⟨h3, ⟨hv, _⟩ | ⟨g, cap, cur, hv, hb, hh, hc, hm, hs, ht⟩⟩ := h1
 ·cases hv
 cases hv
 refine ⟨w.heap.size, rfl, ?_⟩
 have : cur = (Lib.byteCells (List.replicate n 0)).toArray := by
  have e : cur.toList.take (n * 1) = cur.toList := List.take_of_length_le (by simp [hs])
  rw [e] at ht
  rw [← ht, Array.toArray_toList]
 rw [← this]; exact hh
def rbad (s : List UInt8 × Bool) (n : Nat) : Bool := s.2 || decide (s.1.length < n)
def rtv (s : List UInt8 × Bool) (n : Nat) : List UInt8 := if rbad s n = true then List.replicate n 0 else s.1.take n
def rts (s : List UInt8 × Bool) (n : Nat) : List UInt8 × Bool := if rbad s n = true then ([], true) else (s.1.drop n, false)
theorem rtv_len (s : List UInt8 × Bool) (n : Nat) : (rtv s n).length = n := by
 unfold rtv
 split
 ·simp
 rename_i h
 unfold rbad at h
 simp at h
 rw [List.length_take]; omega
structure RfI (w : World) (g : Nat) (s : List UInt8 × Bool) : Prop where
 row : ∃ q : Pt, q.l = s.1 ∧ q.In w g ∧ Bk w g 217 #[q.V, .bool s.2]
 big : s.1.length ≤ 9223372036854775807
theorem RfI.lt {w : World} {g : Nat} {s : List UInt8 × Bool} (h : RfI w g s) : g < w.heap.size := h.row.elim fun _ h => h.2.2.lt
theorem RfI.ext {w w' : World} {g : Nat} {s : List UInt8 × Bool} (h : RfI w g s) (k : Ex w w') : RfI w' g s := by
 have hl := h.lt
 obtain ⟨⟨q, h1, h2, h3⟩, h4⟩ := h
 exact ⟨⟨q, h1, h2.keep (k.mono (Nat.le_of_lt hl)), h3.ext k⟩, h4⟩
theorem RfI.only {w w' : World} {g i : Nat} {s : List UInt8 × Bool} (h : RfI w g s) (o : Only i w w') (hg : g < i) : RfI w' g s := by
 obtain ⟨⟨q, h1, h2, h3⟩, h4⟩ := h
 exact ⟨⟨q, h1, h2.keep (o.below g (by omega) _ (Below.refl _ _)), o.bk h3 (by omega)⟩, h4⟩
def RTakePost (g : Nat) (s : List UInt8 × Bool) (n : Nat) (w : World) (e : Ending) (w' : World) : Prop := ∃ r : Pt, e = .returned r.V ∧ r.l = rtv s n ∧ PN w' w.heap.size r ∧ RfI w' g (rts s n) ∧ Md g w w'
theorem take_in {q : Pt} {w : World} {B n : Nat} (h : q.In w B) (hn : n ≤ q.l.length) : (Pt.mk q.ad q.cap (q.l.take n)).In w B := by
 refine ⟨?_, h.nil, fun h0 => ?_⟩
 ·show (q.l.take n).length ≤ q.cap
  rw [List.length_take]; have := h.cap; omega
 have h0 : 0 < (q.l.take n).length := h0
 rw [List.length_take] at h0
 obtain ⟨b, o, e, hb, hc⟩ := h.read (by omega)
 refine ⟨b, o, e, hb, fun i hi => ?_⟩
 have hi : i < (q.l.take n).length := hi
 rw [List.length_take] at hi
 rw [hc i (by omega)]
 show some (Value.int .u8 _) = some (Value.int .u8 (((q.l.take n).getD i 0).toNat : Int))
 congr 4
 rw [List.getD_eq_getElem?_getD, List.getD_eq_getElem?_getD, List.getElem?_take, if_pos (by omega)]
theorem drop_in {q : Pt} {w : World} {B n : Nat} (h : q.In w B) (hn : n ≤ q.l.length) : (Pt.mk (if q.cap = n then q.ad else q.ad.map fun x => x.add n) (q.cap - n) (q.l.drop n)).In w B := by
 have hc1 := h.cap
 refine ⟨?_, fun h0 => ?_, fun h0 => ?_⟩
 ·show (q.l.drop n).length ≤ q.cap - n
  rw [List.length_drop]; omega
 ·have h0 : (if q.cap = n then q.ad else q.ad.map fun x => x.add n) = none := h0
  show q.cap - n = 0
  split at h0
  ·omega
  have := h.nil (by cases hp : q.ad with
   | none => rfl
   | some A => rw [hp] at h0; cases h0)
  omega
 have h0 : 0 < (q.l.drop n).length := h0
 rw [List.length_drop] at h0
 obtain ⟨b, o, e, hb, hc⟩ := h.read (by omega)
 refine ⟨b, o + n, by show (if q.cap = n then q.ad else q.ad.map fun x => x.add n) = _; rw [if_neg (by omega), e, Option.map_some, Addr.add_lit], hb, fun i hi => ?_⟩
 have hi : i < (q.l.drop n).length := hi
 rw [List.length_drop] at hi
 rw [Nat.add_assoc, hc (n + i) (by omega)]
 show some (Value.int .u8 _) = some (Value.int .u8 (((q.l.drop n).getD i 0).toNat : Int))
 congr 4
 simp [List.getD, List.getElem?_drop]
theorem own9_empty (w : World) : ownU (w.alloc (.cells #[] 5)) w.heap.size (.slice (some ⟨w.heap.size, 0, none⟩) 0 0) [] := World.ownsRow_lit (base := w.heap.size) (e := 5) (size := 1) w #[] 0 (Nat.le_refl _) (Nat.zero_le _) rfl
theorem RfI.kt {w w' : World} {g B : Nat} {s : List UInt8 × Bool} (h : RfI w g s) (k : Kt [5] B w w') (hg : g ≤ B) : RfI w' g s := by
 obtain ⟨⟨q, h1, h2, h3⟩, h4⟩ := h
 exact ⟨⟨q, h1, h2.keep (k.below.mono hg), k.bk h3 (by decide)⟩, h4⟩
theorem md_kt {g b : Nat} {w wa wb : World} (h : Md g w wa) (k : Kt [5] b wa wb) (hg : g ≤ b) (hw : w.heap.size ≤ b) : Md g w wb :=
 ⟨fun B hB a ha => (h.below B hB a ha).trans (k.below.mono (by omega)), fun i hi hl => (k.below.block i (by omega)).trans (h.other i hi hl), Nat.le_trans h.size k.size⟩
theorem rtake_any (g : Nat) (s : List UInt8 × Bool) (n : Nat) (hn : n ≤ 1000) (w : World) (h : RfI w g s) : Calls Try.prog 176 #[.pointer (some ⟨g, 0, none⟩), .int .i64 n] w (RTakePost g s n w) := by
 obtain ⟨l, bd⟩ := s
 obtain ⟨⟨q, hq, hi, hB⟩, hbig⟩ := h
 have hq : q.l = l := hq
 subst hq
 obtain ⟨k, hk⟩ : ∃ k, k = q.l.length := ⟨_, rfl⟩
 have hpv : q.V = .slice q.ad k q.cap := by unfold Pt.V; rw [hk]
 have hbig : q.l.length ≤ 9223372036854775807 := hbig
 rw [← hk] at hbig
 have HK := Hi hk
 have HPV := Hi hpv
 have HI := Hi hi
 have HB := Hi hB
 have c0 : w.cell? ⟨g, 0, none⟩ = some (.slice q.ad k q.cap) := by rw [hB.cell, ← hpv]; rfl
 have c1 : w.cell? ⟨g, 1, none⟩ = some (.bool bd) := by rw [hB.cell]; rfl
 have f0 : w.frozen? ⟨g, 0, none⟩ = false := hB.fr 0
 have f1 : w.frozen? ⟨g, 1, none⟩ = false := hB.fr 1
 have hlt := hB.lt
 by_cases hb : rbad (q.l, bd) n = true
 ·have HR : Hid (∀ w9, Many w9 5 n (Lib.byteCells (List.replicate n 0)) (.slice (some ⟨((w.setCell ⟨g, 1, none⟩ (.bool true)).setCell ⟨g, 0, none⟩ (.slice none 0 0)).heap.size, 0, none⟩) n n) → Ex ((w.setCell ⟨g, 1, none⟩ (.bool true)).setCell ⟨g, 0, none⟩ (.slice none 0 0)) w9 → RTakePost g (q.l, bd) n w (.returned (.slice (some ⟨w.heap.size, 0, none⟩) n n)) w9) := Hi (fun w9 hm k9 => by
   have h1 : rts (q.l, bd) n = ([], true) := by unfold rts; rw [if_pos hb]
   have h2 : rtv (q.l, bd) n = List.replicate n 0 := by unfold rtv; rw [if_pos hb]
   have o1 := Only.setCell g 1 (.bool true) w
   have o2 := Only.setCell g 0 (.slice none 0 0) (w.setCell ⟨g, 1, none⟩ (.bool true))
   have b2 := (hB.put 1 (.bool true)).put 0 (.slice none 0 0)
   have hsz : w.heap.size = ((w.setCell ⟨g, 1, none⟩ (.bool true)).setCell ⟨g, 0, none⟩ (.slice none 0 0)).heap.size := by rw [o2.size, o1.size]
   obtain ⟨g9, e9, b9⟩ := hm
   cases e9
   rw [← hsz] at b9
   have hin : (Pt.mk (some ⟨w.heap.size, 0, none⟩) n (List.replicate n 0)).In w9 w9.heap.size := by have h := bk_pt b9; rw [List.length_replicate] at h; exact h
   refine ⟨⟨_, n, List.replicate n 0⟩, by unfold Pt.V; rw [List.length_replicate], h2.symm, ⟨hin, fun A e => ?_⟩, ?_, (o1.md.trans o2.md).trans (k9.md (by rw [← hsz]; exact Nat.le_of_lt hlt))⟩
   ·cases e; exact ⟨Nat.le_refl _, _, b9⟩
   ·rw [h1]; exact ⟨⟨nilB, rfl, nilB_in _ _, b2.ext k9⟩, Nat.zero_le _⟩)
  unfold rbad at hb
  rw [← hk] at hb
  clear hB hi hpv hk
  cases bd
  ·have q1 : (k : Int) < (n : Int) := by simp at hb; omega
   clear hb
   go_enter Try.func176, Try.ntmps176
   go_wp2_with (first | (with_reducible refine stop_mk ?_) | ((with_reducible refine so5 ?_ ?_); (focus rfl)))
   (with_reducible refine ⟨?_⟩)
   (with_reducible refine at_any ?_ ?_); (focus go_simp); refine fun K0 hK => wp_mkP _ _ rfl n rfl rfl (by omega) (fun w9 hm hx => hK _ _ ?_)
   clear hK
   have HZ := Hi (HR.out w9 hm hx)
   clear hm hx HR
   go_wp2_with fail
   go_ret
   exact HZ.out
  clear hb
  go_enter Try.func176, Try.ntmps176
  go_wp2_with (first | (with_reducible refine stop_mk ?_) | ((with_reducible refine so5 ?_ ?_); (focus rfl)))
  (with_reducible refine ⟨?_⟩)
  (with_reducible refine at_any ?_ ?_); (focus go_simp); refine fun K0 hK => wp_mkP _ _ rfl n rfl rfl (by omega) (fun w9 hm hx => hK _ _ ?_)
  clear hK
  have HZ := Hi (HR.out w9 hm hx)
  clear hm hx HR
  go_wp2_with fail
  go_ret
  exact HZ.out
 have hwr : bd = false := by unfold rbad at hb; simp at hb; exact hb.1
 subst hwr
 have hn2 : n ≤ k := by unfold rbad at hb; simp at hb; rw [← hk] at hb; omega
 have q1 : ¬ (k : Int) < (n : Int) := by omega
 have hcap : k ≤ q.cap := by have := hi.cap; omega
 have q2 : (n : Int) ≤ (k : Int) := by omega
 have q3 : (n : Int) ≤ (q.cap : Int) := by omega
 have HE : Hid (rts (q.l, false) n = (q.l.drop n, false) ∧ rtv (q.l, false) n = q.l.take n) := Hi (by unfold rts rtv; rw [if_neg hb, if_neg hb]; exact ⟨rfl, rfl⟩)
 clear hb
 have HQ : Hid (∃ q2 : Pt, q2.l = q.l.drop n ∧ q2.In w g ∧ q2.V = if q.cap = n then .slice q.ad (k - n) 0 else .slice (q.ad.map fun x => x.add n) (k - n) (q.cap - n)) := Hi (by
  have h := drop_in hi (n := n) (by omega)
  refine ⟨_, rfl, h, ?_⟩
  unfold Pt.V
  have e : (q.l.drop n).length = k - n := by rw [List.length_drop, hk]
  rw [e]
  split
  ·rename_i e9; rw [show q.cap - n = 0 by omega]
  ·rfl)
 have HP := Hi (take_in hi (n := n) (by omega))
 clear hB hi hpv hk
 obtain ⟨q2, h2l, h2i, h2v⟩ := HQ.out
 have L2 := Hi h2l
 have I2 := Hi h2i
 clear h2l h2i HQ
 by_cases hcn : q.cap = n
 ·rw [if_pos hcn] at h2v
  have V2 := Hi h2v
  clear h2v
  go_enter Try.func176, Try.ntmps176
  go_wp2_with (first | (with_reducible refine stop_store ?_) | ((with_reducible refine so5 ?_ ?_); (focus rfl)))
  refine at9 (by go_simp) fun K0 hK => wp_st1 (C := [q.V, .bool false]) _ _ g 0 q2.V rfl rfl V2.out.symm HB.out (by simp) (by kernel_rfl) (by first | rfl | (unfold Pt.V; rfl)) (fun w3 hb3 ho3 => hK _ _ ?_)
  clear hK
  have M3 := Hi ho3.md
  have R3 : Hid (RfI w3 g (q.l.drop n, false)) := Hi ⟨⟨q2, L2.out, I2.out.keep (ho3.below g (Nat.le_refl _) _ (Below.refl _ _)), hb3⟩, (by show (q.l.drop n).length ≤ _; rw [List.length_drop]; have := HK.out; omega)⟩
  have P3 := Hi (HP.out.keep (ho3.below g (Nat.le_refl _) _ (Below.refl _ _)))
  have S3 : Hid (w.heap.size = w3.heap.size) := Hi ho3.size.symm
  clear hb3 ho3 c0 c1 f0 f1
  go_wp2_with ((with_reducible refine so5 ?_ ?_); (focus rfl))
  (with_reducible refine ⟨?_⟩)
  change wpList _ _ _ _ _ (w3.alloc (.cells #[] 5))
  have x4 : Ex w3 (w3.alloc (.cells #[] 5)) := Ex.alloc _ _
  have O4 := Hi (own9_empty w3)
  replace R3 := Hi (R3.out.ext x4)
  replace P3 := Hi (P3.out.keep (x4.mono (Nat.le_of_lt (by have := S3.out; omega))))
  replace M3 := Hi (M3.out.trans (x4.md (by have := S3.out; omega)))
  have S4 : Hid (w3.heap.size ≤ (w3.alloc (.cells #[] 5)).heap.size) := Hi x4.size
  have G4 : Hid (g < (w3.alloc (.cells #[] 5)).heap.size) := Hi (by have := S3.out; have := S4.out; omega)
  obtain ⟨b, hbb⟩ : ∃ b, b = w3.heap.size := ⟨_, rfl⟩
  rw [← hbb] at O4 S4 ⊢
  have SB := Hi (S3.out.trans hbb.symm)
  clear hbb x4 S3
  generalize w3.alloc (.cells #[] 5) = w4 at O4 R3 P3 M3 S4 G4 ⊢
  (with_reducible refine at_any ?_ ?_); (focus go_simp); refine fun K0 hK => wp_cat (.tmp 42) (.tmp 43) rfl b (.slice (some ⟨b, 0, none⟩) 0 0) _ rfl O4.out S4.out ⟨q.ad, q.cap, q.l.take n⟩ (by unfold Pt.V; rw [show (q.l.take n).length = n by rw [List.length_take]; have := HK.out; omega]; first | rfl | (rw [hcn]; rfl)) (P3.out.more (Nat.le_of_lt G4.out)) (by show ([] : List UInt8).length + (q.l.take n).length ≤ _; rw [List.length_take]; simp; omega) (fun v5 w5 r1 g1 l1 => hK _ _ ?_)
  clear hK
  have K5 : Hid (Kt [5] b w4 w5) := Hi (Kt.grown O4.out g1 S4.out)
  obtain ⟨r, hr, rl, rn⟩ := own_pn r1
  have RL := Hi rl
  have RN := Hi (rn.less (Nat.le_of_eq SB.out))
  replace R3 := Hi (R3.out.kt K5.out (by have := SB.out; omega))
  have M5 : Hid (Md g w w5) := Hi (md_kt M3.out K5.out (by have := SB.out; omega) (Nat.le_of_eq SB.out))
  rw [hr]
  clear r1 g1 l1 rl rn hr O4 K5
  go_wp2_with fail
  go_ret
  exact ⟨r, rfl, by rw [RL.out, HE.out.2]; rfl, RN.out, by rw [HE.out.1]; exact R3.out, M5.out⟩
 rw [if_neg hcn] at h2v
 have V2 := Hi h2v
 clear h2v
 go_enter Try.func176, Try.ntmps176
 go_wp2_with (first | (with_reducible refine stop_store ?_) | ((with_reducible refine so5 ?_ ?_); (focus rfl)))
 refine at9 (by go_simp) fun K0 hK => wp_st1 (C := [q.V, .bool false]) _ _ g 0 q2.V rfl rfl V2.out.symm HB.out (by simp) (by kernel_rfl) (by first | rfl | (unfold Pt.V; rfl)) (fun w3 hb3 ho3 => hK _ _ ?_)
 clear hK
 have M3 := Hi ho3.md
 have R3 : Hid (RfI w3 g (q.l.drop n, false)) := Hi ⟨⟨q2, L2.out, I2.out.keep (ho3.below g (Nat.le_refl _) _ (Below.refl _ _)), hb3⟩, (by show (q.l.drop n).length ≤ _; rw [List.length_drop]; have := HK.out; omega)⟩
 have P3 := Hi (HP.out.keep (ho3.below g (Nat.le_refl _) _ (Below.refl _ _)))
 have S3 : Hid (w.heap.size = w3.heap.size) := Hi ho3.size.symm
 clear hb3 ho3 c0 c1 f0 f1
 go_wp2_with ((with_reducible refine so5 ?_ ?_); (focus rfl))
 (with_reducible refine ⟨?_⟩)
 change wpList _ _ _ _ _ (w3.alloc (.cells #[] 5))
 have x4 : Ex w3 (w3.alloc (.cells #[] 5)) := Ex.alloc _ _
 have O4 := Hi (own9_empty w3)
 replace R3 := Hi (R3.out.ext x4)
 replace P3 := Hi (P3.out.keep (x4.mono (Nat.le_of_lt (by have := S3.out; omega))))
 replace M3 := Hi (M3.out.trans (x4.md (by have := S3.out; omega)))
 have S4 : Hid (w3.heap.size ≤ (w3.alloc (.cells #[] 5)).heap.size) := Hi x4.size
 have G4 : Hid (g < (w3.alloc (.cells #[] 5)).heap.size) := Hi (by have := S3.out; have := S4.out; omega)
 obtain ⟨b, hbb⟩ : ∃ b, b = w3.heap.size := ⟨_, rfl⟩
 rw [← hbb] at O4 S4 ⊢
 have SB := Hi (S3.out.trans hbb.symm)
 clear hbb x4 S3
 generalize w3.alloc (.cells #[] 5) = w4 at O4 R3 P3 M3 S4 G4 ⊢
 (with_reducible refine at_any ?_ ?_); (focus go_simp); refine fun K0 hK => wp_cat (.tmp 42) (.tmp 43) rfl b (.slice (some ⟨b, 0, none⟩) 0 0) _ rfl O4.out S4.out ⟨q.ad, q.cap, q.l.take n⟩ (by unfold Pt.V; rw [show (q.l.take n).length = n by rw [List.length_take]; have := HK.out; omega]; first | rfl | (rw [hcn]; rfl)) (P3.out.more (Nat.le_of_lt G4.out)) (by show ([] : List UInt8).length + (q.l.take n).length ≤ _; rw [List.length_take]; simp; omega) (fun v5 w5 r1 g1 l1 => hK _ _ ?_)
 clear hK
 have K5 : Hid (Kt [5] b w4 w5) := Hi (Kt.grown O4.out g1 S4.out)
 obtain ⟨r, hr, rl, rn⟩ := own_pn r1
 have RL := Hi rl
 have RN := Hi (rn.less (Nat.le_of_eq SB.out))
 replace R3 := Hi (R3.out.kt K5.out (by have := SB.out; omega))
 have M5 : Hid (Md g w w5) := Hi (md_kt M3.out K5.out (by have := SB.out; omega) (Nat.le_of_eq SB.out))
 rw [hr]
 clear r1 g1 l1 rl rn hr O4 K5
 go_wp2_with fail
 go_ret
 exact ⟨r, rfl, by rw [RL.out, HE.out.2]; rfl, RN.out, by rw [HE.out.1]; exact R3.out, M5.out⟩
end Go.Proofs.Ytopamplmpfndlaa.Cl
namespace Go.Proofs.Ytopamplmpfndlaa.Cl
open Go.RowKit
def RValPost (v : Value) (g : Nat) (s : List UInt8 × Bool) (w : World) (e : Ending) (w' : World) : Prop := e = .returned v ∧ RfI w' g s ∧ Md g w w'
theorem beV_one {l : List UInt8} (h : l.length = 1) : Sm.beV l = (l.getD 0 0).toNat := by
 match l, h with
 | [x], _ => simp [Sm.beV]
theorem rbyte_any (g : Nat) (s : List UInt8 × Bool) (w : World) (h : RfI w g s) : Calls Try.prog 173 #[.pointer (some ⟨g, 0, none⟩)] w (RValPost (.int .i64 (Sm.beV (rtv s 1) : Int)) g (rts s 1) w) := by
 have H := Hi h
 clear h
 go_enter Try.func173, Try.ntmps173
 go_wp2_with fail
 refine (rtake_any g s 1 (by decide) w H.out).mono ?_
 rintro e w1 ⟨r, rfl, rl, rn, h1, m1⟩
 have hl : r.l.length = 1 := by rw [rl]; exact rtv_len _ _
 obtain ⟨a, o, ea, _, hc⟩ := rn.1.read (by omega)
 have hv : r.V = .slice (some ⟨a, o, none⟩) 1 r.cap := by unfold Pt.V; rw [ea, hl]
 have k := hc 0 (by omega)
 rw [Nat.add_zero] at k
 obtain ⟨z, hz⟩ : ∃ z : Int, z = (Sm.beV r.l : Int) := ⟨_, rfl⟩
 rw [← beV_one hl, ← hz] at k
 have HZ := Hi hz
 have hb := Sm.beV_lt r.l
 rw [hl] at hb
 have z0 : 0 ≤ z := by omega
 have z1 : z < 256 := by omega
 rw [hv]
 have RL := Hi rl
 have H1 := Hi h1
 have M1 := Hi m1
 clear hv hc hl hz hb ea rl rn h1 m1
 go_wp2_with fail
 go_ret
 exact ⟨by rw [← RL.out, ← HZ.out]; rfl, H1.out, M1.out⟩
theorem rnumber9_any (g : Nat) (s : List UInt8 × Bool) (w : World) (h : RfI w g s) : Calls Try.prog 175 #[.pointer (some ⟨g, 0, none⟩)] w (RValPost (.int .u64 (Sm.beV (rtv s 8) : Int)) g (rts s 8) w) := by
 have H := Hi h
 clear h
 go_enter Try.func175, Try.ntmps175
 go_wp2_with fail
 refine (rtake_any g s 8 (by decide) w H.out).mono ?_
 rintro e w1 ⟨r, rfl, rl, rn, h1, m1⟩
 have hl : r.l.length = 8 := by rw [rl]; exact rtv_len _ _
 obtain ⟨a, o, ea, _, hc⟩ := rn.1.read (by omega)
 have hv : r.V = .slice (some ⟨a, o, none⟩) 8 r.cap := by unfold Pt.V; rw [ea, hl]
 rw [hv]
 have HC := Hi hc
 have HL := Hi hl
 have RL := Hi rl
 have H1 := Hi h1
 have M1 := Hi m1
 clear hv hc hl ea rl rn h1 m1 H
 go_wp2_with fail
 go_loop [4, 5] (fun x i => ∃ j : Nat, j ≤ 8 ∧ i = .int .i64 j ∧ x = .int .u64 (Sm.beV (r.l.take j) : Int)) (fun _ i => 8 - (intOf i).toNat)
 case atStart => exact ⟨0, by omega, rfl, rfl⟩
 obtain ⟨j, hj, rfl, rfl⟩ := hrel
 by_cases hlt : j < 8
 ·have k := HC.out j (by rw [HL.out]; exact hlt)
  have ST := Hi (Sm.beV_step r.l j (by rw [HL.out]; exact hlt))
  have SM := Sm.beV_small r.l j hlt (by rw [HL.out]; omega)
  have BL := (r.l.getD j 0).toNat_lt
  generalize r.l.getD j 0 = b at k ST BL
  obtain ⟨x, hx⟩ : ∃ x : Int, x = (Sm.beV (r.l.take j) : Int) := ⟨_, rfl⟩
  have x0 : 0 ≤ x := by omega
  have x1 : x < 72057594037927936 := by omega
  have HX := Hi hx
  rw [← hx]
  clear hx SM
  go_wp2_with fail
  refine ⟨⟨j + 1, by omega, by go_num, ?_⟩, by simp [intOf]; omega⟩
  rw [ST.out]
  have := HX.out
  congr 1
  push_cast
  omega
 obtain rfl : j = 8 := by omega
 go_wp2_with fail
 go_ret
 have e : r.l.take 8 = r.l := List.take_of_length_le (by rw [HL.out]; exact Nat.le_refl _)
 exact ⟨by rw [e, RL.out]; rfl, H1.out, M1.out⟩
theorem rid_any (g : Nat) (s : List UInt8 × Bool) (w : World) (h : RfI w g s) : Calls Try.prog 174 #[.pointer (some ⟨g, 0, none⟩)] w (RValPost (digV (rtv s 4)) g (rts s 4) w) := by
 have J0 : Hid (Bk ((w.alloc (.cells #[.int .u8 0, .int .u8 0, .int .u8 0, .int .u8 0] 26)).alloc (.cells #[.int .u8 0, .int .u8 0, .int .u8 0, .int .u8 0] 26)) w.heap.size 26 (Lib.byteCells [0, 0, 0, 0]).toArray) := Hi ((Bk.new rfl _ _).more _)
 have I0 : Hid (Bk ((w.alloc (.cells #[.int .u8 0, .int .u8 0, .int .u8 0, .int .u8 0] 26)).alloc (.cells #[.int .u8 0, .int .u8 0, .int .u8 0, .int .u8 0] 26)) (w.heap.size + 1) 26 (Lib.byteCells [0, 0, 0, 0]).toArray) := Hi (Bk.new (by simp) _ _)
 have H : Hid (RfI ((w.alloc (.cells #[.int .u8 0, .int .u8 0, .int .u8 0, .int .u8 0] 26)).alloc (.cells #[.int .u8 0, .int .u8 0, .int .u8 0, .int .u8 0] 26)) g s) := Hi ((h.ext (Ex.alloc _ _)).ext (Ex.alloc _ _))
 have X0 : Hid (Ex w ((w.alloc (.cells #[.int .u8 0, .int .u8 0, .int .u8 0, .int .u8 0] 26)).alloc (.cells #[.int .u8 0, .int .u8 0, .int .u8 0, .int .u8 0] 26))) := Hi (Ex.trans (Ex.alloc _ _) (Ex.alloc _ _))
 have HG9 := Hi (Nat.le_of_lt h.lt)
 have HG := Hi h.lt
 clear h
 go_enter Try.func174, Try.ntmps174
 go_wp2_with fail
 generalize ((w.alloc (.cells #[.int .u8 0, .int .u8 0, .int .u8 0, .int .u8 0] 26)).alloc (.cells #[.int .u8 0, .int .u8 0, .int .u8 0, .int .u8 0] 26)) = wr at *
 obtain ⟨n, hn⟩ : ∃ n, n = w.heap.size := ⟨_, rfl⟩
 obtain ⟨i, hi⟩ : ∃ i, i = w.heap.size + 1 := ⟨_, rfl⟩
 rw [← hi] at I0 ⊢
 rw [← hn] at J0 ⊢
 have HI := Hi hi
 have HN := Hi hn
 clear hi hn
 have hS0 : ∀ (listed : Array Bool) (f : Nat → Value), (∀ i, listed.getD i false = false) → (fun (listed : Array Bool) (f : Nat → Value) (W : World) => (listed.getD 2 false = false → RfI W g s) ∧ (listed.getD 2 false = true → RfI W g (rts s 4) ∧ (listed.getD 3 false = false → ∃ r : Pt, f 2 = r.V ∧ r.l = rtv s 4 ∧ r.In W W.heap.size)) ∧ (Md g w W ∧ Bk W n 26 (Lib.byteCells [0, 0, 0, 0]).toArray) ∧ (listed.getD 3 false = false → Bk W i 26 (Lib.byteCells [0, 0, 0, 0]).toArray) ∧ (listed.getD 3 false = true → Bk W i 26 (Lib.byteCells (rtv s 4)).toArray)) listed f wr.drew := fun listed f h0 => ⟨fun _ => H.out.ext (ex_drewN wr 1), fun h9 => (by rw [h0] at h9; cases h9), ⟨Ex.md (Ex.trans X0.out (ex_drewN wr 1)) HG9.out, J0.out.ext (ex_drewN wr 1)⟩, fun _ => I0.out.ext (ex_drewN wr 1), fun h9 => (by rw [h0] at h9; cases h9)⟩
 obtain ⟨T, hT⟩ : ∃ T : List (Value → Prop), T = [(fun zz => zz = .slice (some ⟨i, 0, none⟩) 4 4), (fun zz => zz = .pointer (some ⟨g, 0, none⟩)), (fun _ => True), (fun _ => True)] := ⟨_, rfl⟩
 refine wp_region_gen (JS T ([] : List (Nat × Nat)) (fun (listed : Array Bool) (f : Nat → Value) (W : World) => (listed.getD 2 false = false → RfI W g s) ∧ (listed.getD 2 false = true → RfI W g (rts s 4) ∧ (listed.getD 3 false = false → ∃ r : Pt, f 2 = r.V ∧ r.l = rtv s 4 ∧ r.In W W.heap.size)) ∧ (Md g w W ∧ Bk W n 26 (Lib.byteCells [0, 0, 0, 0]).toArray) ∧ (listed.getD 3 false = false → Bk W i 26 (Lib.byteCells [0, 0, 0, 0]).toArray) ∧ (listed.getD 3 false = true → Bk W i 26 (Lib.byteCells (rtv s 4)).toArray))) (by kernel_rfl) (by kernel_rfl) (by kernel_rfl) (fitB_spec (by kernel_rfl)) (fun listed f h => JS.start listed f h (hS0 listed f h)) ?_ ?_
 ·intro i o ho
  have hi : i < 4 := (Array.getElem?_eq_some_iff.1 ho).1
  have hi' : i = 0 ∨ i = 1 ∨ i = 2 ∨ i = 3 := by omega
  clear hi
  rcases hi' with rfl | rfl | rfl | rfl
  all_goals (simp only [List.getElem?_toArray, List.getElem?_cons_zero, List.getElem?_cons_succ, Option.some.injEq] at ho; subst ho; intro listed f a w2 hJ hsz hls hun hdep hout hlat; first | (rw [if_pos (by rfl)]; intro K hK) | skip)
  ·have q3 := hout 3 ob
   rw [gd9] at q3
   clear hsz hdep hout hlat
   go_simp
   exact hK _ _ (hJ.na hls hT ⟨by rw [gset (by decide)]; exact hJ.st.1, by rw [gset (by decide), gset (by decide), upd_ne _ _ (by decide)]; exact hJ.st.2.1, hJ.st.2.2.1, by rw [gset (by decide)]; exact hJ.st.2.2.2.1, by rw [gset (by decide)]; exact hJ.st.2.2.2.2⟩)
  ·have q0 := hout 0 ob
   exact wp_mw _ rfl q0 (hK _ _ (hJ.nx hls hT rfl rfl ⟨by rw [gset (by decide)]; exact hJ.st.1, by rw [gset (by decide), gset (by decide), upd_ne _ _ (by decide)]; exact hJ.st.2.1, hJ.st.2.2.1, by rw [gset (by decide)]; exact hJ.st.2.2.2.1, by rw [gset (by decide)]; exact hJ.st.2.2.2.2⟩ nh))
  ·have q5 := hJ.iq hT (hdep ⟨1, .data⟩ (by simp) rfl) rfl _ rfl _ rfl
   have h2 := hJ.st.1 hun
   have hM := hJ.st.2.2.1
   have hI := hJ.st.2.2.2.1
   have hI2 := hJ.st.2.2.2.2
   clear hsz hdep hout hlat
   go_simp
   refine (rtake_any g s 4 (by decide) w2 h2).mono ?_
   rintro e w3 ⟨r, rfl, rl, rn, h3, m3⟩
   refine hK _ _ (hJ.nx hls hT rfl (by exact trivial) ⟨fun h9 => ?_, fun _ => ⟨h3, fun _ => ⟨r, by rw [upd_same], rl, rn.1⟩⟩, ⟨hM.1.trans m3, m3.bk hM.2 (by have := HG.out; have := HI.out; have := HN.out; omega)⟩, fun h9 => ?_, fun h9 => ?_⟩ nh)
   ·rw [set_new (by rw [hls]; decide)] at h9; cases h9
   ·rw [gset (by decide)] at h9; exact m3.bk (hI h9) (by have := HG.out; have := HI.out; have := HN.out; omega)
   rw [gset (by decide)] at h9; exact m3.bk (hI2 h9) (by have := HG.out; have := HI.out; have := HN.out; omega)
  have q4 := hJ.is hT (hdep ⟨0, .data⟩ (by simp) rfl) rfl _ rfl _ rfl
  have dd6 := hdep ⟨2, .data⟩ (by simp) rfl
  have q6 := dd6.2 _ rfl _ rfl
  have h6 := hJ.vals 2 dd6.1
  rw [hT] at h6
  have h6 : (fun _ => True) (f 2) := h6
  clear dd6
  have hl2 := (hdep ⟨2, .data⟩ (by simp) rfl).1
  obtain ⟨h3, h4⟩ := hJ.st.2.1 hl2
  obtain ⟨r, e2, rl, ri⟩ := h4 hun
  rw [e2] at q6
  have hM := hJ.st.2.2.1
  have hB := hJ.st.2.2.2.1 hun
  have hl4 : r.l.length = 4 := by rw [rl]; exact rtv_len _ _
  refine wp_copy_pt (.tmp 4) (.tmp 6) rfl i 4 [0, 0, 0, 0] r (r.l) rfl q4 q6 ri hB rfl (Or.inr hl4) (fun v9 w9 hb9 ho9 => hK _ _ (hJ.nx hls hT rfl (by exact trivial) ⟨fun h9 => ?_, fun _ => ⟨h3.only ho9 (by have := HG.out; have := HI.out; have := HN.out; omega), fun h9 => ?_⟩, ⟨Md.only9 hM.1 ho9 (by have := HG.out; have := HI.out; have := HN.out; omega) (by have := HG.out; have := HI.out; have := HN.out; omega), ho9.bk hM.2 (by have := HG.out; have := HI.out; have := HN.out; omega)⟩, fun h9 => ?_, fun _ => ?_⟩ nh))
  ·rw [gset (by decide)] at h9; rw [hl2] at h9; cases h9
  ·rw [set_new (by rw [hls]; decide)] at h9; cases h9
  ·rw [set_new (by rw [hls]; decide)] at h9; cases h9
  rw [if_neg (fun e => by rw [e] at hl4; cases hl4), rl] at hb9; exact hb9
 intro listed f w2 hall hJ
 have hst := hJ.st
 simp only [putAll, Act.put, List.setIfInBounds_toArray, List.set_cons_zero, List.set_cons_succ, Nat.zero_add, Nat.reduceAdd]
 have l2 := hall 2 (by simp)
 have l3 := hall 3 (by simp)
 obtain ⟨R9, _⟩ := hst.2.1 l2
 obtain ⟨M9, N9⟩ := hst.2.2.1
 have B9 := Hi (hst.2.2.2.2 l3)
 replace R9 := Hi R9
 replace M9 := Hi M9
 replace N9 := Hi N9
 clear hst l2 l3 hJ hall hT hS0
 generalize f 0 = y0
 generalize f 1 = y1
 generalize f 2 = y2
 generalize f 3 = y3
 have LN := Hi (rtv_len s 4)
 go_wp2_with ((with_reducible refine so0 ?_ ?_); (focus rfl))
 refine at9 (by go_simp) fun K0 hK => ld_idb _ i (rtv s 4) rfl rfl LN.out B9.out (hK _ _ ?_)
 clear hK
 go_wp2_with ((with_reducible refine so0 ?_ ?_); (focus rfl))
 refine at9 (by go_simp) fun K0 hK => st_idb _ _ n [0, 0, 0, 0] (rtv s 4) rfl rfl rfl rfl LN.out N9.out (fun w9 hb9 ho9 => hK _ _ ?_)
 clear hK
 replace R9 := Hi (R9.out.only ho9 (by have := HG.out; have := HI.out; have := HN.out; omega))
 replace M9 := Hi (Md.only9 M9.out ho9 (by have := HG.out; have := HI.out; have := HN.out; omega) (by have := HG.out; have := HI.out; have := HN.out; omega))
 have HD := Hi hb9
 clear hb9 ho9
 go_wp2_with fail
 exact bodyPost_ret (res_idb rfl _ _ n rfl (rtv s 4) LN.out HD.out) rfl ⟨rfl, R9.out, M9.out⟩
end Go.Proofs.Ytopamplmpfndlaa.Cl
namespace Go.Proofs.Ytopamplmpfndlaa.Cl
open Go.RowKit
def k1 (L : List UInt8) : List UInt8 × Bool := rts (L, false) 1
def k2 (L : List UInt8) : List UInt8 × Bool := rts (k1 L) 4
def k3 (L : List UInt8) : List UInt8 × Bool := rts (k2 L) 8
def k4 (L : List UInt8) : List UInt8 × Bool := rts (k3 L) 1
def k5 (L : List UInt8) : List UInt8 × Bool := rts (k4 L) 1
def k6 (L : List UInt8) : List UInt8 × Bool := rts (k5 L) 8
def k7 (L : List UInt8) : List UInt8 × Bool := rts (k6 L) 1
def kn (L : List UInt8) : Nat := Sm.beV (rtv (k6 L) 1)
def k8 (L : List UInt8) : List UInt8 × Bool := rts (k7 L) (kn L)
def repR (L : List UInt8) : Rc := ⟨Sm.beV (rtv (L, false) 1), rtv (k1 L) 4, Sm.beV (rtv (k2 L) 8), Sm.beV (rtv (k3 L) 1), rtv (k7 L) (kn L), Sm.beV (rtv (k4 L) 1), Sm.beV (rtv (k5 L) 8)⟩
def okR (L : List UInt8) : Bool := (!(k8 L).2 && decide ((k8 L).1.length = 0)) && Rcright (repR L)
def Sim (L : List UInt8) (s : St) (k : List UInt8 × Bool) : Prop := s.2 = k.2 ∧ (s.2 = false → k.1 = L.drop s.1 ∧ s.1 ≤ L.length)
theorem Sim.bad {L : List UInt8} {s : St} {k : List UInt8 × Bool} (h : Sim L s k) (n : Nat) : Cl.bad L s n = rbad k n := by
 unfold Cl.bad rbad
 rw [← h.1]
 cases hs : s.2 with
 | true => rfl
 | false => rw [(h.2 hs).1, List.length_drop]
theorem Sim.step {L : List UInt8} {s : St} {k : List UInt8 × Bool} (h : Sim L s k) (n : Nat) : Sim L (tks L s n) (rts k n) := by
 unfold tks rts
 rw [← h.bad n]
 by_cases hb : Cl.bad L s n = true
 ·rw [if_pos hb, if_pos hb]
  exact ⟨rfl, fun e => by cases e⟩
 rw [if_neg hb, if_neg hb]
 have hs : s.2 = false := by unfold Cl.bad at hb; simp at hb; exact hb.1
 have hn : ¬ L.length - s.1 < n := by unfold Cl.bad at hb; simp at hb; omega
 have h2 := h.2 hs
 refine ⟨rfl, fun _ => ⟨?_, ?_⟩⟩
 ·show k.1.drop n = L.drop (s.1 + n)
  rw [h2.1, List.drop_drop]
 show s.1 + n ≤ L.length
 by_cases h0 : n = 0
 ·omega
 omega
theorem tks_no {L : List UInt8} {s : St} {n : Nat} (h : (tks L s n).2 = false) : Cl.bad L s n = false ∧ s.2 = false := by
 unfold tks at h
 by_cases hb : Cl.bad L s n = true
 ·rw [if_pos hb] at h; cases h
 refine ⟨by simpa using hb, ?_⟩
 unfold Cl.bad at hb; simp at hb; exact hb.1
theorem Sim.val {L : List UInt8} {s : St} {k : List UInt8 × Bool} (h : Sim L s k) {n : Nat} (hb : Cl.bad L s n = false) (hs : s.2 = false) : rtv k n = tkv L s n := by
 unfold rtv tkv
 rw [← h.bad n, if_neg (by rw [hb]; decide), if_neg (by rw [hb]; decide), (h.2 hs).1]
theorem tkv_full {L : List UInt8} {s : St} {n : Nat} (hb : Cl.bad L s n = false) : (tkv L s n).length = n := by
 unfold tkv
 rw [if_neg (by rw [hb]; decide), List.length_take, List.length_drop]
 unfold Cl.bad at hb; simp at hb; omega
theorem pad4_full {l : List UInt8} (h : l.length = 4) : pad4 l = l := by
 unfold pad4; rw [if_neg (fun e => by rw [e] at h; cases h)]
theorem rep_sim (L : List UInt8) : okR L = okP L ∧ (okP L = true → repR L = repP L) := by
 have m0 : Sim L (0, false) (L, false) := ⟨rfl, fun _ => ⟨rfl, Nat.zero_le _⟩⟩
 have m1 : Sim L (r1 L) (k1 L) := m0.step 1
 have m2 : Sim L (r2 L) (k2 L) := m1.step 4
 have m3 : Sim L (r3 L) (k3 L) := m2.step 8
 have m4 : Sim L (r4 L) (k4 L) := m3.step 1
 have m5 : Sim L (r5 L) (k5 L) := m4.step 1
 have m6 : Sim L (r6 L) (k6 L) := m5.step 8
 have m7 : Sim L (r7 L) (k7 L) := m6.step 1
 cases h7 : (r7 L).2 with
 | true =>
  have hP : (r8 L).2 = true := by
   unfold r8 tks Cl.bad; rw [h7]; rfl
  have hR : (k8 L).2 = true := by
   unfold k8 rts rbad; rw [← m7.1, h7]; rfl
  unfold okR okP
  rw [hP, hR]
  exact ⟨rfl, fun e => by cases e⟩
 | false =>
  obtain ⟨b6, n6⟩ := tks_no h7
  obtain ⟨b5, n5⟩ := tks_no n6
  obtain ⟨b4, n4⟩ := tks_no n5
  obtain ⟨b3, n3⟩ := tks_no n4
  obtain ⟨b2, n2⟩ := tks_no n3
  obtain ⟨b1, n1⟩ := tks_no n2
  obtain ⟨b0, n0⟩ := tks_no n1
  have en : kn L = rn L := by unfold kn rn; rw [m6.val b6 n6]
  have m8 : Sim L (r8 L) (k8 L) := by unfold k8; rw [en]; exact m7.step _
  cases h8 : (r8 L).2 with
  | true =>
   unfold okR okP
   rw [← m8.1, h8]
   exact ⟨rfl, fun e => by cases e⟩
  | false =>
   obtain ⟨b7, _⟩ := tks_no h8
   have er : repR L = repP L := by
    unfold repR repP
    rw [m0.val b0 n0, m1.val b1 n1, m2.val b2 n2, m3.val b3 n3, m4.val b4 n4, m5.val b5 n5, en, m7.val b7 h7, pad4_full (tkv_full b1)]
   refine ⟨?_, fun _ => er⟩
   unfold okR okP
   rw [er, ← m8.1, h8]
   have h9 := m8.2 h8
   congr 2
   rw [h9.1, List.length_drop]
   exact decide_eq_decide.2 (by omega)
theorem toRep_doc (L : List UInt8) : toRep L = if okR L = true then (repR L, 0) else (zeroRc, 12) := by
 unfold toRep
 rw [(rep_sim L).1]
 by_cases h : okP L = true
 ·rw [if_pos h, if_pos h, (rep_sim L).2 h]
 rw [if_neg h, if_neg h]
theorem built_why (z : Int) : Try.prog.built 29 [(0, .int .i64 z)] = some (Rt.mk z z4 0 0 nilB 0 0).C.toArray := by kernel_rfl
theorem why_ok {z : Int} (h0 : 0 ≤ z) (h1 : z < 256) : (Rt.mk z z4 0 0 nilB 0 0).Ok := ⟨by show (-9223372036854775808 : Int) ≤ z; omega, by show z ≤ 9223372036854775807; omega, rfl, zeroRt_ok.gen0, zeroRt_ok.gen1, zeroRt_ok.left0, zeroRt_ok.left1, zeroRt_ok.client0, zeroRt_ok.client1, zeroRt_ok.num0, zeroRt_ok.num1⟩
def DocPost (c : Rc) (b : Bool) (w : World) (e : Ending) (w' : World) : Prop := ∃ y : Rt, e = .returned (.tuple #[y.V, .bool b]) ∧ (y.Ok ∧ PN w' 0 y.sec) ∧ y.ct = c ∧ Ex w w'
theorem r1_lt (s : List UInt8 × Bool) : Sm.beV (rtv s 1) < 256 := by
 have h := Sm.beV_lt (rtv s 1)
 rw [rtv_len] at h; omega
theorem r8_lt (s : List UInt8 × Bool) : Sm.beV (rtv s 8) < 18446744073709551616 := by
 have h := Sm.beV_lt (rtv s 8)
 rw [rtv_len] at h
 have h3 : (256 : Nat) ^ 8 = 18446744073709551616 := by decide
 omega
theorem rtorep_any (p : Pt) (w : World) (hp : p.In w w.heap.size) (hbig : p.l.length ≤ 9223372036854775807) : Calls Try.prog 140 #[p.V] w (DocPost (toRep p.l).1 (decide ((toRep p.l).2 = 0)) w) := by
 obtain ⟨m, hm⟩ : ∃ m, m = p.l.length := ⟨_, rfl⟩
 have hpv : p.V = .slice p.ad m p.cap := by unfold Pt.V; rw [hm]
 have H : Hid (RfI ((w.alloc (.cells zeroRt.C.toArray 29)).alloc (.cells #[.slice p.ad m p.cap, .bool false] 217)) (w.heap.size + 1) (p.l, false)) := Hi ⟨⟨p, rfl, (hp.keep (show Below w.heap.size w ((w.alloc (.cells zeroRt.C.toArray 29)).alloc (.cells #[.slice p.ad m p.cap, .bool false] 217)) from Ex.trans (Ex.alloc w _) (Ex.alloc _ _))).more (Nat.le_succ _), by rw [hpv]; exact Bk.new (by simp) _ _⟩, hbig⟩
 have Z : Hid (RB ((w.alloc (.cells zeroRt.C.toArray 29)).alloc (.cells #[.slice p.ad m p.cap, .bool false] 217)) w.heap.size zeroRt) := Hi ⟨zeroRt_ok, (Bk.new rfl _ _).more _⟩
 have BW : Hid (Ex w ((w.alloc (.cells zeroRt.C.toArray 29)).alloc (.cells #[.slice p.ad m p.cap, .bool false] 217))) := Hi (Ex.trans (Ex.alloc w _) (Ex.alloc _ _))
 obtain ⟨b1, hb1⟩ : ∃ b, b = (k8 p.l).2 := ⟨_, rfl⟩
 obtain ⟨n9, hn9⟩ : ∃ b, b = (k8 p.l).1.length := ⟨_, rfl⟩
 obtain ⟨b2, hb2⟩ : ∃ b, b = Rcright (repR p.l) := ⟨_, rfl⟩
 have HT : Hid (toRep p.l = if ((!b1 && decide (n9 = 0)) && b2) = true then (repR p.l, 0) else (zeroRc, 12)) := Hi (by rw [hb1, hb2, hn9]; exact toRep_doc p.l)
 have H1 := Hi hb1
 have H9 := Hi hn9
 have H2 := Hi hb2
 rw [hpv]
 clear hpv hm hp hbig hb1 hb2 hn9
 go_enter Try.func140, Try.ntmps140
 go_wp2_with ((with_reducible refine stop_big ?_ ?_); (focus rfl))
 change Calls _ _ _ ((w.alloc (.cells zeroRt.C.toArray 29)).alloc (.cells #[.slice p.ad m p.cap, .bool false] 217)) _
 generalize ((w.alloc (.cells zeroRt.C.toArray 29)).alloc (.cells #[.slice p.ad m p.cap, .bool false] 217)) = z0 at H Z BW ⊢
 obtain ⟨g, hg⟩ : ∃ g, g = w.heap.size := ⟨_, rfl⟩
 have HG := Hi hg
 rw [← hg] at H Z ⊢
 clear hg
 have LT := Hi H.out.lt
 refine (rbyte_any (g + 1) (p.l, false) z0 H.out).mono ?_
 rintro e w1 ⟨rfl, h1, m1⟩
 replace BW := Hi (Md.ex m1 BW.out (by have := HG.out; omega))
 replace Z := Hi (m1.rb Z.out (by omega))
 replace H := Hi (show RfI w1 (g + 1) (k1 p.l) from h1)
 clear m1 h1
 go_wp2_with ((with_reducible refine so0 ?_ ?_); (focus rfl))
 refine at9 (by go_simp) fun K0 hK => wp_build _ _ rfl _ (built_why _) (hK _ _ ?_)
 clear hK
 go_wp2_with ((with_reducible refine stop_big ?_ ?_); (focus rfl))
 obtain ⟨i, hi⟩ : ∃ i, i = w1.heap.size := ⟨_, rfl⟩
 have hz := r1_lt (p.l, false)
 have LT1 := Hi H.out.lt
 refine at9 (by go_simp) fun K0 hK => st_r _ _ w1.heap.size (Rt.mk (Sm.beV (rtv (p.l, false) 1)) z4 0 0 nilB 0 0) rfl rfl rfl (why_ok (by omega) (by omega)) (Bk.new rfl _ _) (by rfl) (fun w3 hd ho => hK _ _ ?_)
 clear hK
 have x3 : Ex w1 w3 := ho.below w1.heap.size (Nat.le_refl _) w1 (Ex.alloc w1 _)
 replace BW := Hi (Ex.trans BW.out x3)
 replace Z := Hi (Z.out.ext x3)
 replace H := Hi (H.out.ext x3)
 have Y := Hi hd
 rw [← hi] at Y ⊢
 have hgi : g + 1 < i := by have := LT1.out; omega
 clear hi hd ho x3 hz
 go_wp2_with ((with_reducible refine so3 [1000 + 24, 1000 + 27, 1000 + 3, 1000 + 23] ?_ ?_); (focus rfl))
 refine (rid_any (g + 1) (k1 p.l) _ H.out).mono ?_
 rintro e w1 ⟨rfl, h1, m1⟩
 replace BW := Hi (Md.ex m1 BW.out (by have := HG.out; omega))
 replace Z := Hi (m1.rb Z.out (by omega))
 replace Y := Hi (m1.rb Y.out (by omega))
 replace H := Hi (show RfI w1 (g + 1) (k2 p.l) from h1)
 clear m1 h1
 go_wp2_with ((with_reducible refine so3 [1000 + 24, 1000 + 27, 1000 + 3, 1000 + 23] ?_ ?_); (focus rfl))
 refine at9 (by go_simp) fun K0 hK => st_rid _ _ i _ (rtv (k1 p.l) 4) rfl rfl rfl (rtv_len _ _) Y.out (fun w9 hd ho => hK _ _ ?_)
 clear hK
 replace H := Hi (H.out.only ho hgi)
 replace Z := Hi (ho.rb Z.out (by omega))
 replace BW := Hi (ho.below w.heap.size (by have := HG.out; omega) _ BW.out)
 replace Y := Hi hd
 clear hd ho
 go_wp2_with ((with_reducible refine so3 [1000 + 24, 1000 + 27, 1000 + 3, 1000 + 23] ?_ ?_); (focus rfl))
 refine (rnumber9_any (g + 1) (k2 p.l) _ H.out).mono ?_
 rintro e w1 ⟨rfl, h1, m1⟩
 replace BW := Hi (Md.ex m1 BW.out (by have := HG.out; omega))
 replace Z := Hi (m1.rb Z.out (by omega))
 replace Y := Hi (m1.rb Y.out (by omega))
 replace H := Hi (show RfI w1 (g + 1) (k3 p.l) from h1)
 clear m1 h1
 go_wp2_with ((with_reducible refine so3 [1000 + 24, 1000 + 27, 1000 + 3, 1000 + 23] ?_ ?_); (focus rfl))
 refine at9 (by go_simp) fun K0 hK => st_rgen (by kernel_rfl) _ _ i _ (Sm.beV (rtv (k2 p.l) 8)) rfl rfl rfl (by omega) (by have := r8_lt (k2 p.l); omega) Y.out (fun w9 hd ho => hK _ _ ?_)
 clear hK
 replace H := Hi (H.out.only ho hgi)
 replace Z := Hi (ho.rb Z.out (by omega))
 replace BW := Hi (ho.below w.heap.size (by have := HG.out; omega) _ BW.out)
 replace Y := Hi hd
 clear hd ho
 go_wp2_with ((with_reducible refine so3 [1000 + 24, 1000 + 27, 1000 + 3, 1000 + 23] ?_ ?_); (focus rfl))
 refine (rbyte_any (g + 1) (k3 p.l) _ H.out).mono ?_
 rintro e w1 ⟨rfl, h1, m1⟩
 replace BW := Hi (Md.ex m1 BW.out (by have := HG.out; omega))
 replace Z := Hi (m1.rb Z.out (by omega))
 replace Y := Hi (m1.rb Y.out (by omega))
 replace H := Hi (show RfI w1 (g + 1) (k4 p.l) from h1)
 clear m1 h1
 go_wp2_with ((with_reducible refine so3 [1000 + 24, 1000 + 27, 1000 + 3, 1000 + 23] ?_ ?_); (focus rfl))
 refine at9 (by go_simp) fun K0 hK => st_rleft (by kernel_rfl) _ _ i _ (Sm.beV (rtv (k3 p.l) 1)) rfl rfl rfl (by omega) (by have := r1_lt (k3 p.l); omega) Y.out (fun w9 hd ho => hK _ _ ?_)
 clear hK
 replace H := Hi (H.out.only ho hgi)
 replace Z := Hi (ho.rb Z.out (by omega))
 replace BW := Hi (ho.below w.heap.size (by have := HG.out; omega) _ BW.out)
 replace Y := Hi hd
 clear hd ho
 go_wp2_with ((with_reducible refine so3 [1000 + 24, 1000 + 27, 1000 + 3, 1000 + 23] ?_ ?_); (focus rfl))
 refine (rbyte_any (g + 1) (k4 p.l) _ H.out).mono ?_
 rintro e w1 ⟨rfl, h1, m1⟩
 replace BW := Hi (Md.ex m1 BW.out (by have := HG.out; omega))
 replace Z := Hi (m1.rb Z.out (by omega))
 replace Y := Hi (m1.rb Y.out (by omega))
 replace H := Hi (show RfI w1 (g + 1) (k5 p.l) from h1)
 clear m1 h1
 go_wp2_with ((with_reducible refine so3 [1000 + 24, 1000 + 27, 1000 + 3, 1000 + 23] ?_ ?_); (focus rfl))
 refine at9 (by go_simp) fun K0 hK => st_rclient (by kernel_rfl) _ _ i _ (Sm.beV (rtv (k4 p.l) 1)) rfl rfl rfl (by omega) (by have := r1_lt (k4 p.l); omega) Y.out (fun w9 hd ho => hK _ _ ?_)
 clear hK
 replace H := Hi (H.out.only ho hgi)
 replace Z := Hi (ho.rb Z.out (by omega))
 replace BW := Hi (ho.below w.heap.size (by have := HG.out; omega) _ BW.out)
 replace Y := Hi hd
 clear hd ho
 go_wp2_with ((with_reducible refine so3 [1000 + 24, 1000 + 27, 1000 + 3, 1000 + 23] ?_ ?_); (focus rfl))
 refine (rnumber9_any (g + 1) (k5 p.l) _ H.out).mono ?_
 rintro e w1 ⟨rfl, h1, m1⟩
 replace BW := Hi (Md.ex m1 BW.out (by have := HG.out; omega))
 replace Z := Hi (m1.rb Z.out (by omega))
 replace Y := Hi (m1.rb Y.out (by omega))
 replace H := Hi (show RfI w1 (g + 1) (k6 p.l) from h1)
 clear m1 h1
 go_wp2_with ((with_reducible refine so3 [1000 + 24, 1000 + 27, 1000 + 3, 1000 + 23] ?_ ?_); (focus rfl))
 refine at9 (by go_simp) fun K0 hK => st_rnum (by kernel_rfl) _ _ i _ (Sm.beV (rtv (k5 p.l) 8)) rfl rfl rfl (by omega) (by have := r8_lt (k5 p.l); omega) Y.out (fun w9 hd ho => hK _ _ ?_)
 clear hK
 replace H := Hi (H.out.only ho hgi)
 replace Z := Hi (ho.rb Z.out (by omega))
 replace BW := Hi (ho.below w.heap.size (by have := HG.out; omega) _ BW.out)
 replace Y := Hi hd
 clear hd ho
 go_wp2_with ((with_reducible refine so3 [1000 + 24, 1000 + 27, 1000 + 3, 1000 + 23] ?_ ?_); (focus rfl))
 refine (rbyte_any (g + 1) (k6 p.l) _ H.out).mono ?_
 rintro e w1 ⟨rfl, h1, m1⟩
 replace BW := Hi (Md.ex m1 BW.out (by have := HG.out; omega))
 replace Z := Hi (m1.rb Z.out (by omega))
 replace Y := Hi (m1.rb Y.out (by omega))
 replace H := Hi (show RfI w1 (g + 1) (k7 p.l) from h1)
 clear m1 h1
 go_wp2_with ((with_reducible refine so3 [1000 + 24, 1000 + 27, 1000 + 3, 1000 + 23] ?_ ?_); (focus rfl))
 have hn8 := r1_lt (k6 p.l)
 have SZ := Hi Y.out.lt
 refine (rtake_any (g + 1) (k7 p.l) (kn p.l) (by show Sm.beV (rtv (k6 p.l) 1) ≤ 1000; omega) _ H.out).mono ?_
 rintro e w1 ⟨q, rfl, ql, qn, h1, m1⟩
 replace BW := Hi (Md.ex m1 BW.out (by have := HG.out; omega))
 replace Z := Hi (m1.rb Z.out (by omega))
 replace Y := Hi (m1.rb Y.out (by omega))
 replace H := Hi (show RfI w1 (g + 1) (k8 p.l) from h1)
 have QL := Hi ql
 have QN := Hi qn
 clear m1 h1 ql qn hn8
 go_wp2_with ((with_reducible refine so3 [1000 + 24, 1000 + 27, 1000 + 3, 1000 + 23] ?_ ?_); (focus rfl))
 refine at9 (by go_simp) fun K0 hK => st_rsec (by kernel_rfl) _ _ i _ q rfl rfl rfl Y.out (fun w9 hd ho => hK _ _ ?_)
 clear hK
 replace QN := Hi (QN.out.only ho SZ.out)
 replace H := Hi (H.out.only ho hgi)
 replace Z := Hi (ho.rb Z.out (by omega))
 replace BW := Hi (ho.below w.heap.size (by have := HG.out; omega) _ BW.out)
 replace Y := Hi hd
 clear hd ho
 obtain ⟨y, hy⟩ : ∃ y : Rt, y = ⟨Sm.beV (rtv (p.l, false) 1), rtv (k1 p.l) 4, Sm.beV (rtv (k2 p.l) 8), Sm.beV (rtv (k3 p.l) 1), q, Sm.beV (rtv (k4 p.l) 1), Sm.beV (rtv (k5 p.l) 8)⟩ := ⟨_, rfl⟩
 have YC : Hid (y.ct = repR p.l) := Hi (by rw [hy]; unfold repR Rt.ct; simp only [QL.out])
 replace QN := Hi (show PN w9 _ y.sec by rw [hy]; exact QN.out)
 replace Y := Hi (show RB w9 i y by rw [hy]; exact Y.out)
 clear hy QL SZ LT LT1
 obtain ⟨⟨q9, e9, _, b9⟩, _⟩ := H.out
 have hv9 : q9.V = .slice q9.ad n9 q9.cap := by unfold Pt.V; rw [e9, ← H9.out]
 have d0 : w9.cell? ⟨g + 1, 0, none⟩ = some (.slice q9.ad n9 q9.cap) := by rw [b9.cell, ← hv9]; rfl
 have d1 : w9.cell? ⟨g + 1, 1, none⟩ = some (.bool b1) := by rw [b9.cell, H1.out]; rfl
 clear e9 b9 hv9
 cases b1
 rotate_left
 ·skip
  go_wp2_with ((with_reducible refine stop_big ?_ ?_); (focus rfl))
  (first | ((with_reducible refine at8 ?_ ?_); (focus (go_simp; done)); go_wp2_with ((with_reducible refine stop_big ?_ ?_); (focus rfl))) | skip)
  refine at9 (by go_simp) fun K0 hK => st_r _ _ g zeroRt rfl rfl (by first | rfl | skip) zeroRt_ok Z.out.2 (by rw [List.size_toArray, Rt.len Z.out.1]) (fun w5 hd ho => hK _ _ ?_)
  clear hK
  replace BW := Hi (ho.below w.heap.size (by have := HG.out; omega) _ BW.out)
  have YD := Hi hd
  clear hd ho
  go_wp2_with fail
  exact bodyPost_ret (res_r2 rfl _ _ g rfl zeroRt YD.out) rfl ⟨zeroRt, by rw [HT.out]; rfl, ⟨zeroRt_ok, nilB_pn _ _⟩, by rw [HT.out]; rfl, BW.out⟩
 by_cases e : n9 = 0
 rotate_left
 ·have e2 : 0 < (n9 : Int) := by omega
  have e3 : 0 < n9 := by omega
  go_wp2_with ((with_reducible refine stop_big ?_ ?_); (focus rfl))
  (first | ((with_reducible refine at8 ?_ ?_); (focus (go_simp; done)); go_wp2_with ((with_reducible refine stop_big ?_ ?_); (focus rfl))) | skip)
  refine at9 (by go_simp) fun K0 hK => st_r _ _ g zeroRt rfl rfl (by first | rfl | skip) zeroRt_ok Z.out.2 (by rw [List.size_toArray, Rt.len Z.out.1]) (fun w5 hd ho => hK _ _ ?_)
  clear hK
  replace BW := Hi (ho.below w.heap.size (by have := HG.out; omega) _ BW.out)
  have YD := Hi hd
  clear hd ho
  go_wp2_with fail
  exact bodyPost_ret (res_r2 rfl _ _ g rfl zeroRt YD.out) rfl ⟨zeroRt, by rw [HT.out]; simp [e], ⟨zeroRt_ok, nilB_pn _ _⟩, by rw [HT.out]; simp [e]; rfl, BW.out⟩
 subst e
 skip
 go_wp2_with ((with_reducible refine stop_big ?_ ?_); (focus rfl))
 refine at9 (by go_simp) fun K0 hK => ld_r _ i y rfl rfl Y.out (hK _ _ ?_)
 clear hK
 go_wp2_with ((with_reducible refine stop_big ?_ ?_); (focus rfl))
 refine (rrright_any y _ ⟨Y.out.1, QN.out.1⟩).mono ?_
 rintro e w6 ⟨rfl, x6⟩
 replace BW := Hi (Ex.trans BW.out x6)
 replace Z := Hi (Z.out.ext x6)
 replace QN := Hi (QN.out.ext x6)
 replace Y := Hi (Y.out.ext x6)
 rw [YC.out, ← H2.out]
 clear x6 d0 d1 H
 cases b2
 ·skip
  go_wp2_with ((with_reducible refine stop_big ?_ ?_); (focus rfl))
  refine at9 (by go_simp) fun K0 hK => st_r _ _ g zeroRt rfl rfl (by first | rfl | skip) zeroRt_ok Z.out.2 (by rw [List.size_toArray, Rt.len Z.out.1]) (fun w5 hd ho => hK _ _ ?_)
  clear hK
  replace BW := Hi (ho.below w.heap.size (by have := HG.out; omega) _ BW.out)
  have YD := Hi hd
  clear hd ho
  go_wp2_with fail
  exact bodyPost_ret (res_r2 rfl _ _ g rfl zeroRt YD.out) rfl ⟨zeroRt, by rw [HT.out]; rfl, ⟨zeroRt_ok, nilB_pn _ _⟩, by rw [HT.out]; rfl, BW.out⟩
 skip
 go_wp2_with ((with_reducible refine stop_big ?_ ?_); (focus rfl))
 refine at9 (by go_simp) fun K0 hK => ld_r _ i y rfl rfl Y.out (hK _ _ ?_)
 clear hK
 go_wp2_with ((with_reducible refine stop_big ?_ ?_); (focus rfl))
 refine at9 (by go_simp) fun K0 hK => st_r _ _ g y rfl rfl rfl Y.out.1 Z.out.2 (by rw [List.size_toArray, Rt.len Z.out.1]) (fun w5 hd ho => hK _ _ ?_)
 clear hK
 replace QN := Hi (QN.out.onlyT ho Z.out.2 (by decide))
 replace BW := Hi (ho.below w.heap.size (by have := HG.out; omega) _ BW.out)
 have YD := Hi hd
 have YO := Hi Y.out.1
 clear hd ho
 go_wp2_with fail
 exact bodyPost_ret (res_r2 rfl _ _ g rfl y YD.out) rfl ⟨y, by rw [HT.out]; rfl, ⟨YO.out, QN.out.less (Nat.zero_le _)⟩, by rw [HT.out, YC.out]; rfl, BW.out⟩
end Go.Proofs.Ytopamplmpfndlaa.Cl
