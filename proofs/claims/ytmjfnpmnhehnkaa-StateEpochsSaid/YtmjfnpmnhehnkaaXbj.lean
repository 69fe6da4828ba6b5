/- Sj, Rg -/
import Derived.Test.YtmjfnpmnhehnkaaXbi
import Derived.ChangeSlices
import Derived.Deep.Slices
import Derived.Deep.Fields
import Derived.OpenShut
namespace Go.Proofs.Ytmjfnpmnhehnkaa
open Go.ChangeShapes Go.WideShapes Go.ChangeAt Go.RowKit Go.Deep
set_option maxRecDepth 100000 in
theorem open_bytes {H : Type} {enc : TypeId × Value → H} {W : World} {n : Nat} {cs : List Value} {x : DataW H × List MemPlace} (h : DataW.trod enc Try.prog W 0 (fun _ => true) true n 25 cs = some x) :
    ∃ p : Pt, cs = [p.V] ∧ p.In W W.heap.size ∧ p.l.length ≤ 9223372036854775807 := by
  rcases open_ints Try.underlying25 Try.underlying5 Try.cells5 h with ⟨hcs, hx⟩ | ⟨a, len, cap, zs, hcs, _, hl, hm, hz, hx, hcell, hwz⟩
  · exact ⟨⟨none, 0, []⟩, hcs, ⟨Nat.le_refl _, fun _ => rfl, fun h => absurd h (Nat.lt_irrefl 0)⟩, Nat.zero_le _⟩
  simp only [if_true] at hz
  have hlen : ((zs.take len).map fun n => UInt8.ofNat n.toNat).length = len := by simp; omega
  refine ⟨⟨some a, cap, (zs.take len).map fun n => UInt8.ofNat n.toNat⟩, by rw [hcs]; unfold Pt.V; simp only [hlen], ⟨by simp only [hlen]; exact hl, (fun h => by cases h), fun h0 => ?_⟩, by simp only [hlen]; unfold maxLen at hm; omega⟩
  simp only [hlen] at h0 ⊢
  obtain ⟨ab, ao, spot⟩ := a
  have hspot : spot = none := by simpa [Addr.add] using World.cell?_spot (hcell 0 (by omega))
  subst hspot
  refine ⟨ab, ao, rfl, by have := World.block_lt_of_cell? W _ (hcell 0 (by omega)); simpa [Addr.add] using this, fun i hi => ?_⟩
  have hcj := hcell i (by omega)
  rw [Addr.add_lit] at hcj
  rw [hcj]
  have hb := range_u8 hwz i
  have e : zs[i]? = some (zs[i]'(by omega)) := List.getElem?_eq_getElem (by omega)
  have e2 : (List.map (fun n => UInt8.ofNat n.toNat) (zs.take len)).getD i 0 = UInt8.ofNat (zs[i]'(by omega)).toNat := by
    simp [List.getD, hi, e]
  rw [e2, List.getD_eq_getElem?_getD, e]
  rw [e] at hb
  simp only [Option.getD_some] at hb ⊢
  congr 2
  simp only [UInt8.toNat_ofNat']
  omega
theorem Try.cells3 : Try.prog.cellsOf 3 = 1 := by kernel_rfl
theorem Try.cells24 : Try.prog.cellsOf 24 = 1 := by kernel_rfl
theorem Try.cells25 : Try.prog.cellsOf 25 = 1 := by kernel_rfl
theorem wf_i64 {n : Int} (h : (Lit.int .i64 n).wf = true) : -9223372036854775808 ≤ n ∧ n ≤ 9223372036854775807 := by
  simp [Lit.wf, IntKind.min, IntKind.max, IntKind.signed, IntKind.bits] at h; omega
theorem wf_u64 {n : Int} (h : (Lit.int .u64 n).wf = true) : 0 ≤ n ∧ n < 18446744073709551616 := by
  simp [Lit.wf, IntKind.min, IntKind.max, IntKind.signed, IntKind.bits] at h; omega
theorem Try.cells27 : Try.prog.cellsOf 27 = 8 := by kernel_rfl
def fields27 : List Field := [⟨ "ID", 3, 0, false, "", "", 0⟩, ⟨ "Pin", 3, 1, false, "", "", 8⟩, ⟨ "Owner", 3, 2, false, "", "", 16⟩, ⟨ "Limit", 3, 3, false, "", "", 24⟩, ⟨ "Used", 3, 4, false, "", "", 32⟩, ⟨ "How", 3, 5, false, "", "", 40⟩, ⟨ "Gen", 24, 6, false, "", "", 48⟩, ⟨ "Secret", 25, 7, false, "", "", 56⟩]
theorem fields27_is : (Try.prog.fieldsOf 27).toList = fields27 := by
  unfold Program.fieldsOf
  rw [Try.underlying27]
  rfl
theorem under27 : Try.prog.underlying 27 = some (.struct (Try.prog.fieldsOf 27)) := by
  unfold Program.fieldsOf; rw [Try.underlying27]
set_option maxRecDepth 100000 in
theorem kv_cells {H : Type} {enc : TypeId × Value → H} {W : World} {n : Nat} {cs : List Value} {x : DataW H × List MemPlace} (hl : cs.length = 8) (h : DataW.trod enc Try.prog W 0 (fun _ => true) true n 27 cs = some x) :
    ∃ z : Kv, cs = z.C ∧ z.In W := by
  obtain ⟨xs, k, _, _, _, hlen, hf⟩ := DataW.trod_struct under27 h
  have hfs : (Try.prog.fieldsOf 27).toList = fields27 := fields27_is
  have g0 : (Try.prog.fieldsOf 27)[0]? = some ⟨ "ID", 3, 0, false, "", "", 0⟩ := by rw [← Array.getElem?_toList, hfs]; rfl
  have g1 : (Try.prog.fieldsOf 27)[1]? = some ⟨ "Pin", 3, 1, false, "", "", 8⟩ := by rw [← Array.getElem?_toList, hfs]; rfl
  have g2 : (Try.prog.fieldsOf 27)[2]? = some ⟨ "Owner", 3, 2, false, "", "", 16⟩ := by rw [← Array.getElem?_toList, hfs]; rfl
  have g3 : (Try.prog.fieldsOf 27)[3]? = some ⟨ "Limit", 3, 3, false, "", "", 24⟩ := by rw [← Array.getElem?_toList, hfs]; rfl
  have g4 : (Try.prog.fieldsOf 27)[4]? = some ⟨ "Used", 3, 4, false, "", "", 32⟩ := by rw [← Array.getElem?_toList, hfs]; rfl
  have g5 : (Try.prog.fieldsOf 27)[5]? = some ⟨ "How", 3, 5, false, "", "", 40⟩ := by rw [← Array.getElem?_toList, hfs]; rfl
  have g6 : (Try.prog.fieldsOf 27)[6]? = some ⟨ "Gen", 24, 6, false, "", "", 48⟩ := by rw [← Array.getElem?_toList, hfs]; rfl
  have g7 : (Try.prog.fieldsOf 27)[7]? = some ⟨ "Secret", 25, 7, false, "", "", 56⟩ := by rw [← Array.getElem?_toList, hfs]; rfl
  have hn : xs.length = 8 := by rw [hlen, ← Array.length_toList, hfs]; rfl
  match xs, hn, cs, hl with
  | [y0, y1, y2, y3, y4, y5, y6, y7], _, [c0, c1, c2, c3, c4, c5, c6, c7], _ =>
    have f0 : DataW.trod enc Try.prog W 0 (fun _ => true) true k 3 (([c0, c1, c2, c3, c4, c5, c6, c7].drop 0).take (Try.prog.cellsOf 3)) = some y0 := hf 0 _ g0
    rw [Try.cells3] at f0
    obtain ⟨m0, e0, _, w0⟩ := DataW.trod_int Try.underlying3 f0
    have e0 : c0 = .int .i64 m0 := by simpa using e0
    have f1 : DataW.trod enc Try.prog W 0 (fun _ => true) true k 3 (([c0, c1, c2, c3, c4, c5, c6, c7].drop 1).take (Try.prog.cellsOf 3)) = some y1 := hf 1 _ g1
    rw [Try.cells3] at f1
    obtain ⟨m1, e1, _, w1⟩ := DataW.trod_int Try.underlying3 f1
    have e1 : c1 = .int .i64 m1 := by simpa using e1
    have f2 : DataW.trod enc Try.prog W 0 (fun _ => true) true k 3 (([c0, c1, c2, c3, c4, c5, c6, c7].drop 2).take (Try.prog.cellsOf 3)) = some y2 := hf 2 _ g2
    rw [Try.cells3] at f2
    obtain ⟨m2, e2, _, w2⟩ := DataW.trod_int Try.underlying3 f2
    have e2 : c2 = .int .i64 m2 := by simpa using e2
    have f3 : DataW.trod enc Try.prog W 0 (fun _ => true) true k 3 (([c0, c1, c2, c3, c4, c5, c6, c7].drop 3).take (Try.prog.cellsOf 3)) = some y3 := hf 3 _ g3
    rw [Try.cells3] at f3
    obtain ⟨m3, e3, _, w3⟩ := DataW.trod_int Try.underlying3 f3
    have e3 : c3 = .int .i64 m3 := by simpa using e3
    have f4 : DataW.trod enc Try.prog W 0 (fun _ => true) true k 3 (([c0, c1, c2, c3, c4, c5, c6, c7].drop 4).take (Try.prog.cellsOf 3)) = some y4 := hf 4 _ g4
    rw [Try.cells3] at f4
    obtain ⟨m4, e4, _, w4⟩ := DataW.trod_int Try.underlying3 f4
    have e4 : c4 = .int .i64 m4 := by simpa using e4
    have f5 : DataW.trod enc Try.prog W 0 (fun _ => true) true k 3 (([c0, c1, c2, c3, c4, c5, c6, c7].drop 5).take (Try.prog.cellsOf 3)) = some y5 := hf 5 _ g5
    rw [Try.cells3] at f5
    obtain ⟨m5, e5, _, w5⟩ := DataW.trod_int Try.underlying3 f5
    have e5 : c5 = .int .i64 m5 := by simpa using e5
    have f6 : DataW.trod enc Try.prog W 0 (fun _ => true) true k 24 (([c0, c1, c2, c3, c4, c5, c6, c7].drop 6).take (Try.prog.cellsOf 24)) = some y6 := hf 6 _ g6
    rw [Try.cells24] at f6
    obtain ⟨m6, e6, _, w6⟩ := DataW.trod_int Try.underlying24 f6
    have e6 : c6 = .int .u64 m6 := by simpa using e6
    have f7 : DataW.trod enc Try.prog W 0 (fun _ => true) true k 25 (([c0, c1, c2, c3, c4, c5, c6, c7].drop 7).take (Try.prog.cellsOf 25)) = some y7 := hf 7 _ g7
    rw [Try.cells25] at f7
    obtain ⟨p7, e7, in7, ln7⟩ := open_bytes f7
    have e7 : c7 = p7.V := by simpa using e7
    exact ⟨⟨m0, m1, m2, m3, m4, m5, m6, p7⟩, by rw [e0, e1, e2, e3, e4, e5, e6, e7]; rfl, ⟨wf_i64 w0, wf_i64 w1, wf_i64 w2, wf_i64 w3, wf_i64 w4, wf_i64 w5, (wf_u64 w6).1, (wf_u64 w6).2, in7, ln7⟩⟩
end Go.Proofs.Ytmjfnpmnhehnkaa
namespace Go.Proofs.Ytmjfnpmnhehnkaa
open Go.RowKit
/-- what is drawn for a record -/
structure Rr where
 kind : Int
 shard : Int
 tw : Int
 ep : Int
 v : Kv
 ad : Option Addr
 cap : Nat
 l : List Kv
def Rr.C (x : Rr) : List Value := [.int .i64 x.kind, .int .i64 x.shard, .int .i64 x.tw, .int .u64 x.ep] ++ x.v.C ++ [.slice x.ad x.l.length x.cap]
def Rr.V (x : Rr) : Value := .agg x.C.toArray
structure Rr.In (x : Rr) (w : World) : Prop where
 kind : i64 x.kind
 shard : i64 x.shard
 tw : i64 x.tw
 ep : 0 ≤ x.ep ∧ x.ep < 18446744073709551616
 v : x.v.In w
 inn : Kvp.In x.ad x.cap x.l w
 cap : x.cap ≤ 9223372036854775807
theorem Rr.In.ext {x : Rr} {w w' : World} (h : x.In w) (k : Ex w w') : x.In w' := { h with v := h.v.ext k, inn := h.inn.ext k }
theorem Rr.len (x : Rr) : x.C.length = 13 := rfl
def RrB (w : World) (g : Nat) (x : Rr) : Prop := Bk w g 30 x.C.toArray
theorem RrB.ext {w w' : World} {g : Nat} {x : Rr} (h : RrB w g x) (k : Ex w w') : RrB w' g x := Bk.ext h k
theorem RrB.cells {w : World} {g : Nat} {x : Rr} (h : RrB w g x) : w.cell? ⟨g, 0, none⟩ = some (.int .i64 x.kind) ∧ w.cell? ⟨g, 1, none⟩ = some (.int .i64 x.shard) ∧ w.cell? ⟨g, 2, none⟩ = some (.int .i64 x.tw) ∧ w.cell? ⟨g, 3, none⟩ = some (.int .u64 x.ep) ∧ w.cell? ⟨g, 4, none⟩ = some (.int .i64 x.v.id) ∧ w.cell? ⟨g, 12, none⟩ = some (.slice x.ad x.l.length x.cap) :=
 ⟨(Bk.cell h 0).trans rfl, (Bk.cell h 1).trans rfl, (Bk.cell h 2).trans rfl, (Bk.cell h 3).trans rfl, (Bk.cell h 4).trans rfl, (Bk.cell h 12).trans rfl⟩
def zeroRk : Rk := ⟨0, 0, 0, 0, zeroVt, none, 0, []⟩
theorem Rk.C_one (x : Rk) : ∀ u ∈ x.C, u.oneCell' = true := by
 intro u hu
 unfold Rk.C at hu
 rcases List.mem_append.1 hu with hu | hu
 ·rcases List.mem_append.1 hu with hu | hu
  ·simp only [List.mem_cons, List.not_mem_nil, or_false] at hu
   rcases hu with rfl | rfl | rfl | rfl <;> rfl
  exact Vt.C_one x.v u hu
 simp only [List.mem_cons, List.not_mem_nil, or_false] at hu
 rw [hu]; rfl
section
variable {o : Oper} {a : Act} {w : World} {K : Act → World → Prop} {Q : Exit → Act → World → Prop}
theorem ld_rrv (x : Operand) (g : Nat) (v : Rr) (ho : o.op = .load 27 x) (ha : a.eval x = .pointer (some ⟨g, 4, none⟩)) (h : RrB w g v) (hk : K (a.put o.dst v.v.V) w) : o.wp Try.prog a w K Q := by
 obtain ⟨dd, hd⟩ : ∃ d, Try.prog.underlying 27 = some d ∧ d.isRow = true := ⟨_, Try.underlying27, rfl⟩
 exact wp_ldp (C := v.C) v.v.C x g 4 dd ho ha h rfl hd.1 hd.2 (by rw [show (Try.prog.info? 27).map (·.size) = some 8 by kernel_rfl]; rfl) hk
theorem st_rk (x y : Operand) (g : Nat) (v : Rk) (ho : o.op = .store 39 x y) (ha : a.eval x = .pointer (some ⟨g, 0, none⟩)) (hy : a.eval y = .agg v.C.toArray) (hv : v.v.Ok) {Y : Array Value} (hB : Bk w g 39 Y) (hY : Y.size = 47) (hk : ∀ w', KB9 w' g v → Only g w w' → K (a.put o.dst undef) w') : o.wp Try.prog a w K Q := by
 have hB' : Bk w g 39 Y.toList.toArray := by simpa using hB
 refine wp_stp v.C x y g 0 ho ha hy hB' (by rw [Rk.len hv]; simp [hY]) (by rw [Try.sizeRk, Rk.len hv]) (all_oneCell_toArray (Rk.C_one v)) (fun w' h1 h2 => hk w' ⟨hv, ?_⟩ h2)
 have e : Y.toList.take 0 ++ v.C ++ Y.toList.drop (0 + v.C.length) = v.C := by
  rw [List.take_zero, List.nil_append, List.drop_eq_nil_of_le (by rw [Rk.len hv]; simp [hY]), List.append_nil]
 rw [e] at h1; exact h1
end
theorem res_rk {fn : Func} {a : Tmp} (h : fn.results = #[.cell a 39]) (tmps : Array Value) (w : World) (g : Nat) (ha : tmps.getD a undef = .pointer (some ⟨g, 0, none⟩)) (x : Rk) (hB : KB9 w g x) : (results fn tmps).run Try.prog w = .ok x.V w := by
 obtain ⟨dd, hd⟩ : ∃ d, Try.prog.underlying 39 = some d ∧ d.isRow = true := ⟨_, Try.underlying39, rfl⟩
 exact res_row1 h tmps w g ha hB.2 hd.1 hd.2 (by rw [Try.sizeRk, Rk.len hB.1])
/-- a record of one's own memory -/
structure RkM (w : World) (B : Nat) (x : Rk) : Prop where
 inn : x.In w
 v : TVN w x.v
 row : VRow w B (.slice x.ad x.l.length x.cap) x.l
 sh : x.kind = 1 ∨ (0 ≤ x.shard ∧ x.shard < 16)
theorem RkM.ext {w w' : World} {B : Nat} {x : Rk} (h : RkM w B x) (k : Ex w w') : RkM w' B x := ⟨h.inn.ext k, h.v.ext k, h.row.ext k, h.sh⟩
theorem RkM.less {w : World} {B B' : Nat} {x : Rk} (h : RkM w B x) (k : B' ≤ B) : RkM w B' x := ⟨h.inn, h.v, h.row.less k, h.sh⟩
theorem zeroVt_tvn (w : World) : TVN w zeroVt := ⟨zeroVt_ok, nilB_pn _ _, Nat.zero_le _⟩
theorem rkm_of {w : World} {B : Nat} {k s t e : Int} {ad : Option Addr} {cap : Nat} {l : List Vt} {y : Vt} (hk : i64 k) (hs : i64 s) (ht : i64 t) (he : 0 ≤ e ∧ e < 18446744073709551616) (hy : TVN w y) (h : VRow w B (.slice ad l.length cap) l) (hsh : k = 1 ∨ (0 ≤ s ∧ s < 16)) : RkM w B ⟨k, s, t, e, y, ad, cap, l⟩ := by
 obtain ⟨ad2, cap2, e2, hin, hc⟩ := h.inn3
 cases e2
 exact ⟨⟨hk, hs, ht, he, hy.vi, hin, hc, fun i z hz => (h.ins i z hz).vi⟩, hy, h, hsh⟩
def RecPost (w : World) (e : Ending) (w' : World) : Prop := ∃ x : Rk, e = .returned x.V ∧ RkM w' w.heap.size x ∧ Ex w w'
theorem vrow_none (w : World) (B : Nat) : VRow w B (.slice none ([] : List Vt).length 0) [] := VRow.nil w B
set_option maxHeartbeats 4000000 in
set_option maxRecDepth 100000 in
theorem krec_any (x : Rr) (w : World) (hx : x.In w) : Calls Try.prog 52 #[x.V] w (RecPost w) := by
 obtain ⟨cs, hcs⟩ : ∃ cs, cs = x.C.toArray := ⟨_, rfl⟩
 have A0 : Hid (RrB ((w.alloc (.cells cs 30)).alloc (.cells zeroRk.C.toArray 39)) w.heap.size x) := Hi (by rw [hcs]; exact (Bk.new rfl _ _).more _)
 have Z0 : Hid (KB9 ((w.alloc (.cells cs 30)).alloc (.cells zeroRk.C.toArray 39)) (w.heap.size + 1) zeroRk) := Hi ⟨zeroVt_ok, Bk.new (by simp) _ _⟩
 have BW : Hid (Ex w ((w.alloc (.cells cs 30)).alloc (.cells zeroRk.C.toArray 39))) := Hi (Ex.trans (Ex.alloc w _) (Ex.alloc _ _))
 rw [show (Calls Try.prog 52 #[x.V] w) = (Calls Try.prog 52 #[.agg cs] w) by rw [hcs]; rfl]
 have HX := Hi hx
 have tm := Int.tmod_eq_emod_of_nonneg hx.ep.1 (b := 6)
 have t0 := Int.emod_nonneg x.ep (show (6 : Int) ≠ 0 by decide)
 have t1 := Int.emod_lt_of_pos x.ep (show (0 : Int) < 6 by decide)
 have e0 := hx.ep.1
 have e1 := hx.ep.2
 obtain ⟨ep, hep⟩ : ∃ e, e = 1 + x.ep % 6 := ⟨_, rfl⟩
 have HE : Hid (0 ≤ ep ∧ ep < 18446744073709551616) := Hi (by omega)
 have HEP := Hi hep
 clear hcs hx hep
 go_enter Try.func52, Try.ntmps52
 go_wp2_with ((with_reducible refine so4 [3] ?_ ?_); (focus rfl))
 (with_reducible refine ⟨?_⟩)
 change wpList _ _ _ _ _ ((w.alloc (.cells cs 30)).alloc (.cells zeroRk.C.toArray 39))
 generalize hw1 : ((w.alloc (.cells cs 30)).alloc (.cells zeroRk.C.toArray 39)) = w1 at *
 clear hw1
 obtain ⟨B, hB⟩ : ∃ B, B = w.heap.size := ⟨_, rfl⟩
 rw [← hB] at A0 Z0 ⊢
 have HB := Hi hB
 clear hB
 obtain ⟨k0, k1, k2, k3, k4, k12⟩ := A0.out.cells
 go_wp2_with fail
 refine (within_any x.shard 0 15 HX.out.shard (by decide) (by decide) (by decide) w1).mono ?_
 rintro e w2 ⟨sh, rfl, s0, s1, rfl⟩
 go_wp2_with fail
 rw [← HEP.out]
 clear tm t0 t1 e0 e1 k3
 refine (within_any x.kind 0 1048576 HX.out.kind (by decide) (by decide) (by decide) w1).mono ?_
 rintro e w2 ⟨kd, rfl, d0, d1, rfl⟩
 have HI15 : Hid (i64 sh) := Hi (by unfold i64; omega)
 have HSH := Hi (And.intro s0 s1)
 have z0 : 0 ≤ kd % 6 := Int.emod_nonneg _ (by decide)
 have z1 : kd % 6 < 6 := Int.emod_lt_of_pos _ (by decide)
 by_cases h3 : kd % 6 = 3
 ·skip
  go_wp2_with fail
  refine (within_any x.tw 0 7 HX.out.tw (by decide) (by decide) (by decide) w1).mono ?_
  rintro e w2 ⟨tw, rfl, w0_, w1_, rfl⟩
  have HTW : Hid (i64 tw) := Hi (by unfold i64; omega)
  have BZ := BW
  go_wp2_with (first | ((with_reducible refine so0 ?_ ?_); (focus rfl)) | ((with_reducible refine so4 [39, 1000 + 39, 27, 30, 1000 + 30] ?_ ?_); (focus rfl)))
  refine at9 (by go_simp) fun K0 hK => wp_build _ _ rfl _ (built_rkO sh tw ep) (hK _ _ ?_)
  clear hK
  go_wp2_with (first | ((with_reducible refine so0 ?_ ?_); (focus rfl)) | ((with_reducible refine so4 [39, 1000 + 39, 27, 30, 1000 + 30] ?_ ?_); (focus rfl)))
  refine at9 (by go_simp) fun K0 hK => st_rk _ _ (B + 1) (rkO sh tw ep) rfl rfl rfl zeroVt_ok (Z0.out).2 (by rw [List.size_toArray, Rk.len (Z0.out).1]) (fun w9 hd ho => hK _ _ ?_)
  clear hK
  have HD := Hi hd
  have BX := Hi (ho.below w.heap.size (by rw [← HB.out]; omega) w BZ.out)
  have HO := Hi ho
  clear hd ho
  go_wp2_with fail
  exact bodyPost_ret (res_rk rfl _ _ (B + 1) rfl (rkO sh tw ep) HD.out) rfl ⟨rkO sh tw ep, rfl, rkm_of (by unfold i64; omega) HI15.out HTW.out HE.out (zeroVt_tvn _) (vrow_none _ _) (Or.inr (by have := HSH.out; omega)), BX.out⟩
 by_cases h4 : kd % 6 = 4
 ·skip
  go_wp2_with fail
  refine (keepvs_any x.ad x.cap x.l sh HI15.out w1 (Nat.le_trans (HX.out.ext BW.out).inn.len HX.out.cap) (HX.out.ext BW.out).inn).mono ?_
  rintro e w2 ⟨v, ys, rfl, hr, hy4, hyi, hyr, x2⟩
  have BZ := Hi (Ex.trans BW.out x2)
  have Z2 := Hi (Z0.out.ext x2)
  obtain ⟨ad, cap, rfl, hin, hcap⟩ := hr.inn3
  have HR := Hi (hr.less BW.out.sz')
  clear hr hin hcap hy4 hyi hyr x2 k0 k1 k2 k4 k12
  go_wp2_with (first | ((with_reducible refine so0 ?_ ?_); (focus rfl)) | ((with_reducible refine so4 [39, 1000 + 39, 27, 30, 1000 + 30] ?_ ?_); (focus rfl)))
  refine at9 (by go_simp) fun K0 hK => wp_build _ _ rfl _ (built_rkI sh ep ad cap ys) (hK _ _ ?_)
  clear hK
  go_wp2_with (first | ((with_reducible refine so0 ?_ ?_); (focus rfl)) | ((with_reducible refine so4 [39, 1000 + 39, 27, 30, 1000 + 30] ?_ ?_); (focus rfl)))
  refine at9 (by go_simp) fun K0 hK => st_rk _ _ (B + 1) (rkI sh ep ad cap ys) rfl rfl rfl zeroVt_ok (Z2.out).2 (by rw [List.size_toArray, Rk.len (Z2.out).1]) (fun w9 hd ho => hK _ _ ?_)
  clear hK
  have HD := Hi hd
  have BX := Hi (ho.below w.heap.size (by rw [← HB.out]; omega) w BZ.out)
  have HO := Hi ho
  clear hd ho
  go_wp2_with fail
  have kt : Kt [39] 0 w2 w9 := Kt.md HO.out.md (Nat.zero_le _) Z2.out.2 (List.mem_singleton.2 rfl)
  have HR9 : Hid (VRow w9 w.heap.size (.slice ad ys.length cap) ys) := Hi ⟨kt.row HR.out.row (by decide), fun i z hz => (HR.out.ins i z hz).kt kt (by decide)⟩
  exact bodyPost_ret (res_rk rfl _ _ (B + 1) rfl (rkI sh ep ad cap ys) HD.out) rfl ⟨rkI sh ep ad cap ys, rfl, rkm_of (by unfold i64; omega) HI15.out (by unfold i64; omega) HE.out (zeroVt_tvn _) HR9.out (Or.inr (by have := HSH.out; omega)), BX.out⟩
 by_cases h5 : kd % 6 = 5
 ·skip
  have BZ := BW
  go_wp2_with (first | ((with_reducible refine so0 ?_ ?_); (focus rfl)) | ((with_reducible refine so4 [39, 1000 + 39, 27, 30, 1000 + 30] ?_ ?_); (focus rfl)))
  refine at9 (by go_simp) fun K0 hK => wp_build _ _ rfl _ (built_rkD sh ep) (hK _ _ ?_)
  clear hK
  go_wp2_with (first | ((with_reducible refine so0 ?_ ?_); (focus rfl)) | ((with_reducible refine so4 [39, 1000 + 39, 27, 30, 1000 + 30] ?_ ?_); (focus rfl)))
  refine at9 (by go_simp) fun K0 hK => st_rk _ _ (B + 1) (rkD sh ep) rfl rfl rfl zeroVt_ok (Z0.out).2 (by rw [List.size_toArray, Rk.len (Z0.out).1]) (fun w9 hd ho => hK _ _ ?_)
  clear hK
  have HD := Hi hd
  have BX := Hi (ho.below w.heap.size (by rw [← HB.out]; omega) w BZ.out)
  have HO := Hi ho
  clear hd ho
  go_wp2_with fail
  exact bodyPost_ret (res_rk rfl _ _ (B + 1) rfl (rkD sh ep) HD.out) rfl ⟨rkD sh ep, rfl, rkm_of (by unfold i64; omega) HI15.out (by unfold i64; omega) HE.out (zeroVt_tvn _) (vrow_none _ _) (Or.inr (by have := HSH.out; omega)), BX.out⟩
 skip
 go_wp2_with fail
 clear k0 k1 k2 k4 k12
 obtain ⟨T, hT⟩ : ∃ T : List Sx, T = [.is (.pointer (some ⟨B, 4, none⟩)), .is (x.v.V), .is (.pointer (some ⟨B, 4, none⟩)), .is (.pointer (some ⟨B, 4, none⟩)), .is (.int .i64 x.v.id), .of (fun v _ => ∃ d : List UInt8, v = digV d ∧ d.length = 4) (fun v _ _ h _ => h), .of (fun v w9 => ∃ y : Vt, v = y.V ∧ TVN w9 y) (fun v _ _ h k => by obtain ⟨p, h1, h2⟩ := h; exact ⟨p, h1, h2.ext k⟩), .of (fun v w9 => ∃ y : Vt, v = .agg (rkK y).C.toArray ∧ TVN w9 y) (fun v _ _ h k => by obtain ⟨p, h1, h2⟩ := h; exact ⟨p, h1, h2.ext k⟩), .any] := ⟨_, rfl⟩
 have HFX : T.map Sx.fixed = [true, true, true, true, true, false, false, false, true] := by rw [hT]; rfl
 have hFst : ∀ wa wb, (fun w9 => ∃ y : Vt, KB9 w9 (B + 1) (rkK y) ∧ TVN w9 y ∧ Ex w w9) wa → Ex wa wb → (fun w9 => ∃ y : Vt, KB9 w9 (B + 1) (rkK y) ∧ TVN w9 y ∧ Ex w w9) wb := fun _ _ h k9 => by obtain ⟨y, h1, h2, h3⟩ := h; exact ⟨y, h1.ext k9, h2.ext k9, Ex.trans h3 k9⟩
 refine wp_region_gen (JE w1 T ([none, none, none, none, none, some 6, some 7, some 8, none] : List (Option Nat)) ([(8, 1), (8, 4), (8, 6)] : List (Nat × Nat)) 8 8 (fun w9 => ∃ y : Vt, KB9 w9 (B + 1) (rkK y) ∧ TVN w9 y ∧ Ex w w9)) (by kernel_rfl) (by kernel_rfl) (by kernel_rfl) (fitB_spec (by kernel_rfl)) (fun listed f h => JE.start listed f h) ?_ ?_
 ·intro i o ho
  have hi : i < 9 := (Array.getElem?_eq_some_iff.1 ho).1
  have hi' : i = 0 ∨ i = 1 ∨ i = 2 ∨ i = 3 ∨ i = 4 ∨ i = 5 ∨ i = 6 ∨ i = 7 ∨ i = 8 := by omega
  clear hi
  rcases hi' with rfl | rfl | rfl | rfl | rfl | rfl | rfl | rfl | rfl
  all_goals (simp only [List.getElem?_toArray, List.getElem?_cons_zero, List.getElem?_cons_succ, Option.some.injEq] at ho; subst ho; intro listed f a w3 hJ hsz hls hun hdep hout hlat; first | (rw [if_pos (by rfl)]; intro K hK) | skip)
  ·have q1 := hout 1 (outB_spec (by kernel_rfl))
   rw [Array.getD_eq_getD_getElem?] at q1
   clear hsz hdep hout hlat
   go_simp
   exact hK _ _ (hJ.plain (by rw [hls]; decide) hFst (by decide) (Ex.refl _) (by rw [hT]; first | rfl | exact congrArg (Value.int .i64) (by omega) | exact congrArg (Value.int .i64) (by rw [IntKind.wrap_i64]; omega)) (no_head (by decide)))
  ·have dd38 := hdep ⟨0, .data⟩ (by simp) rfl
   have q38 := dd38.2 _ rfl _ rfl
   have h38 := hJ.vals 0 dd38.1 (fun c hc => by have hc : none = some c := hc; cases hc)
   rw [hT] at h38
   rw [show f 0 = .pointer (some ⟨B, 4, none⟩) from h38] at q38
   clear h38
   clear dd38
   have hcut : listed.getD 8 false = false := by
    cases hc : listed.getD 8 false with
    | false => rfl
    | true =>
     have hc0 := hJ.ord (8, 1) (by simp) hc
     exact absurd hc0 (by rw [hun]; decide)
   have hpre := hJ.pre hcut
   exact ld_rrv _ B x rfl q38 (A0.out.ext hpre) (hK _ _ (hJ.plain (by rw [hls]; decide) hFst (by decide) (Ex.refl _) (by rw [hT]; rfl) (no_head (by decide))))
  ·have q1 := hout 1 (outB_spec (by kernel_rfl))
   rw [Array.getD_eq_getD_getElem?] at q1
   clear hsz hdep hout hlat
   go_simp
   exact hK _ _ (hJ.plain (by rw [hls]; decide) hFst (by decide) (Ex.refl _) (by rw [hT]; first | rfl | exact congrArg (Value.int .i64) (by omega) | exact congrArg (Value.int .i64) (by rw [IntKind.wrap_i64]; omega)) (no_head (by decide)))
  ·have dd40 := hdep ⟨2, .data⟩ (by simp) rfl
   have q40 := dd40.2 _ rfl _ rfl
   have h40 := hJ.vals 2 dd40.1 (fun c hc => by have hc : none = some c := hc; cases hc)
   rw [hT] at h40
   rw [show f 2 = .pointer (some ⟨B, 4, none⟩) from h40] at q40
   clear h40
   clear dd40
   rw [Array.getD_eq_getD_getElem?] at q40
   clear hsz hdep hout hlat
   go_simp
   exact hK _ _ (hJ.plain (by rw [hls]; decide) hFst (by decide) (Ex.refl _) (by rw [hT]; first | rfl | exact congrArg (Value.int .i64) (by omega) | exact congrArg (Value.int .i64) (by rw [IntKind.wrap_i64]; omega)) (no_head (by decide)))
  ·have dd41 := hdep ⟨3, .data⟩ (by simp) rfl
   have q41 := dd41.2 _ rfl _ rfl
   have h41 := hJ.vals 3 dd41.1 (fun c hc => by have hc : none = some c := hc; cases hc)
   rw [hT] at h41
   rw [show f 3 = .pointer (some ⟨B, 4, none⟩) from h41] at q41
   clear h41
   clear dd41
   have hcut : listed.getD 8 false = false := by
    cases hc : listed.getD 8 false with
    | false => rfl
    | true =>
     have hc0 := hJ.ord (8, 4) (by simp) hc
     exact absurd hc0 (by rw [hun]; decide)
   have hpre := hJ.pre hcut
   have c1 := (A0.out.ext hpre).cells.2.2.2.2.1
   rw [Array.getD_eq_getD_getElem?] at q41
   clear hsz hdep hout hlat
   go_simp
   exact hK _ _ (hJ.plain (by rw [hls]; decide) hFst (by decide) (Ex.refl _) (by rw [hT]; rfl) (no_head (by decide)))
  ·have dd42 := hdep ⟨4, .data⟩ (by simp) rfl
   have q42 := dd42.2 _ rfl _ rfl
   have h42 := hJ.vals 4 dd42.1 (fun c hc => by have hc : none = some c := hc; cases hc)
   rw [hT] at h42
   rw [show f 4 = .int .i64 x.v.id from h42] at q42
   clear h42
   clear dd42
   rw [Array.getD_eq_getD_getElem?] at q42
   clear hsz hdep hout hlat
   go_simp
   refine (id_any x.v.id HX.out.v.id w3).mono ?_
   rintro e w4 ⟨d, rfl, h1, x3⟩
   exact hK _ _ (hJ.plain (by rw [hls]; decide) hFst (by decide) x3 (by rw [hT]; exact ⟨d, rfl, h1⟩) (no_head (by decide)))
  ·have dd39 := hdep ⟨1, .data⟩ (by simp) rfl
   have q39 := dd39.2 _ rfl _ rfl
   have h39 := hJ.vals 1 dd39.1 (fun c hc => by have hc : none = some c := hc; cases hc)
   rw [hT] at h39
   rw [show f 1 = x.v.V from h39] at q39
   clear h39
   clear dd39
   have dd43 := hdep ⟨5, .data⟩ (by simp) rfl
   have q43 := dd43.2 _ rfl _ rfl
   have h43 := hJ.vals 5 dd43.1 (fun c hc => by have hc : some 6 = some c := hc; cases hc; exact hun)
   rw [hT] at h43
   have h43 : (fun v _ => ∃ d : List UInt8, v = digV d ∧ d.length = 4) (f 5) w3 := h43
   obtain ⟨d43, e43, n43⟩ := h43
   rw [e43] at q43
   clear dd43
   have hcut : listed.getD 8 false = false := by
    cases hc : listed.getD 8 false with
    | false => rfl
    | true =>
     have hc0 := hJ.ord (8, 6) (by simp) hc
     exact absurd hc0 (by rw [hun]; decide)
   have hpre := hJ.pre hcut
   rw [Array.getD_eq_getD_getElem?] at q39 q43
   clear hsz hdep hout hlat
   go_simp
   refine (kv_any x.v d43 n43 w3 ((HX.out.v.ext BW.out).ext hpre)).mono ?_
   rintro e w4 ⟨y, rfl, h1, h2, h3, x3⟩
   exact hK _ _ (hJ.plain (by rw [hls]; decide) hFst (by decide) x3 (by rw [hT]; exact ⟨y, rfl, h1⟩) (no_head (by decide)))
  ·have dd44 := hdep ⟨6, .data⟩ (by simp) rfl
   have q44 := dd44.2 _ rfl _ rfl
   have h44 := hJ.vals 6 dd44.1 (fun c hc => by have hc : some 7 = some c := hc; cases hc; exact hun)
   rw [hT] at h44
   have h44 : (fun v w9 => ∃ y : Vt, v = y.V ∧ TVN w9 y) (f 6) w3 := h44
   obtain ⟨y44, e44, n44⟩ := h44
   rw [e44] at q44
   clear dd44
   refine wp_build _ _ rfl (rkK y44).C.toArray ?_ (hK _ _ (hJ.plain (by rw [hls]; decide) hFst (by decide) (Ex.refl _) (by rw [hT]; exact ⟨y44, rfl, n44⟩) (no_head (by decide))))
   simp only [List.map_cons, List.map_nil, show a.eval (.tmp 44) = _ from q44]
   exact built_rkK y44 n44.ok
  have q2 := hout 2 (outB_spec (by kernel_rfl))
  have dd45 := hdep ⟨7, .data⟩ (by simp) rfl
  have q45 := dd45.2 _ rfl _ rfl
  have h45 := hJ.vals 7 dd45.1 (fun c hc => by have hc : some 8 = some c := hc; cases hc; exact hun)
  rw [hT] at h45
  have h45 : (fun v w9 => ∃ y : Vt, v = .agg (rkK y).C.toArray ∧ TVN w9 y) (f 7) w3 := h45
  obtain ⟨y45, e45, n45⟩ := h45
  rw [e45] at q45
  clear dd45
  have hl1 := (hdep ⟨1, .phase⟩ (by simp) rfl).1
  have hl4 := (hdep ⟨4, .phase⟩ (by simp) rfl).1
  have hl6 := (hdep ⟨6, .chain⟩ (by simp) rfl).1
  have hord : ∀ x ∈ ([(8, 1), (8, 4), (8, 6)] : List (Nat × Nat)), x.1 = 8 → listed.getD x.2 false = true := (by intro x hx he; simp only [List.mem_cons, List.not_mem_nil, or_false] at hx; rcases hx with rfl | rfl | rfl; all_goals first | (exact absurd he (by decide)) | assumption)
  have hcut := hun
  have hpre := hJ.pre hcut
  have hc1 : ∀ j, j ≠ 8 → ([true, true, true, true, true, false, false, false, true] : List Bool).getD j true = false → listed.getD j false = true → ∃ c, (([none, none, none, none, none, some 6, some 7, some 8, none] : List (Option Nat))).getD j none = some c ∧ (c = 8 ∨ listed.getD c false = true) := by
   intro j hj hfj hl
   have hm : j = 5 ∨ j = 6 ∨ j = 7 := by
    rcases Nat.lt_or_ge j 9 with h | h
    ·have hk : j = 0 ∨ j = 1 ∨ j = 2 ∨ j = 3 ∨ j = 4 ∨ j = 5 ∨ j = 6 ∨ j = 7 ∨ j = 8 := by omega
     rcases hk with rfl | rfl | rfl | rfl | rfl | rfl | rfl | rfl | rfl <;> first | (exact absurd hfj (by decide)) | simp
    ·rw [List.getD_eq_getElem?_getD, List.getElem?_eq_none (by simpa using h)] at hfj; cases hfj
   rcases hm with rfl | rfl | rfl
   ·exact ⟨6, rfl, Or.inr (hdep ⟨6, .chain⟩ (by simp) rfl).1⟩
   ·exact ⟨7, rfl, Or.inr (hdep ⟨7, .data⟩ (by simp) rfl).1⟩
   ·exact ⟨8, rfl, Or.inl rfl⟩
  refine st_rk _ _ (B + 1) (rkK y45) rfl q2 q45 n45.ok (Z0.out.ext hpre).2 (by rw [List.size_toArray, Rk.len (Z0.out.ext hpre).1]) (fun w5 hd ho => ?_)
  have kt : Kt [39] 0 w3 w5 := Kt.md ho.md (Nat.zero_le _) (Z0.out.ext hpre).2 (List.mem_singleton.2 rfl)
  have hfin : ∃ y : Vt, KB9 w5 (B + 1) (rkK y) ∧ TVN w5 y ∧ Ex w w5 := ⟨y45, hd, n45.kt kt (by decide), ho.below w.heap.size (by rw [← HB.out]; omega) w (Ex.trans BW.out hpre)⟩
  exact hK _ _ (hJ.mod (by rw [hls]; decide) HFX (by rw [hT]; exact trivial) hc1 (Or.inl rfl) (fun _ => hfin) hord)
 intro listed f w3 hall hJ
 have xf : (fun w9 => ∃ y : Vt, KB9 w9 (B + 1) (rkK y) ∧ TVN w9 y ∧ Ex w w9) w3 := hJ.fin (hall 8 (by simp))
 simp only [putAll, Act.put, List.setIfInBounds_toArray, List.set_cons_zero, List.set_cons_succ, Nat.zero_add, Nat.reduceAdd]
 clear hJ hall hT HFX hFst
 obtain ⟨y, h1, h2, h3⟩ := xf
 have HD := Hi h1
 have HT := Hi (And.intro h2 h3)
 clear h1 h2 h3
 go_wp2_with fail
 exact bodyPost_ret (res_rk rfl _ _ (B + 1) rfl (rkK y) HD.out) rfl ⟨rkK y, rfl, rkm_of (by unfold i64; omega) (by unfold i64; omega) (by unfold i64; omega) ⟨Int.le_refl _, by decide⟩ HT.out.1 (vrow_none _ _) (Or.inl rfl), HT.out.2⟩
end Go.Proofs.Ytmjfnpmnhehnkaa
