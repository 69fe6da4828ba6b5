/- Js, Vmf, Jl -/
import Derived.Test.YtmjfnpmnhehnkaaXbm
import Derived.Deep.CutBlock
import Derived.Laws.Closers25b
import Derived.ChangeSlices
import Derived.Deep.Slices
import Derived.Deep.Fields
import Derived.OpenShut
namespace Go.Proofs.Ytmjfnpmnhehnkaa
open Go.RowKit
theorem PN.sn {w : World} {B : Nat} {p : Pt} (h : PN w B p) : SN9 w p := ⟨h.1, fun a e => by obtain ⟨_, cs, hc⟩ := h.2 a e; exact ⟨cs, _, hc⟩⟩
theorem SN9.kt {S : List Nat} {B : Nat} {w w' : World} {p : Pt} (h : SN9 w p) (k : Kt S B w w') (hs : 5 ∉ S) : SN9 w' p := by
 refine ⟨⟨h.1.cap, h.1.nil, fun h0 => ?_⟩, fun a e => by obtain ⟨cs, fr, hc⟩ := h.2 a e; exact ⟨cs, fr, k.typ _ _ _ _ hc hs⟩⟩
 obtain ⟨a, o, e, hB, hc⟩ := h.1.read h0
 obtain ⟨cs, fr, hb⟩ := h.2 _ e
 refine ⟨a, o, e, Nat.lt_of_lt_of_le hB k.size, fun i hi => ?_⟩
 rw [← hc i hi]
 have h2 := k.typ _ _ _ _ hb hs
 simp only [World.cell?, h2, hb]
structure Dw where
 k : Kq
 turn : Int
def Dw.C (x : Dw) : List Value := x.k.C ++ [.int .i64 x.turn]
def Dw.V (x : Dw) : Value := .agg x.C.toArray
structure Dw.In (x : Dw) (w : World) : Prop where
 k : x.k.In w
 t : i64 x.turn
theorem Dw.In.ext {x : Dw} {w w' : World} (h : x.In w) (k : Ex w w') : x.In w' := ⟨h.k.ext k, h.t⟩
structure Dwp.In (ad : Option Addr) (cap : Nat) (l : List Dw) (w : World) : Prop where
 len : l.length ≤ cap
 nil : ad = none → cap = 0
 ins : ∀ (i : Nat) (x : Dw), l[i]? = some x → x.In w
 read : 0 < l.length → ∃ a o, ad = some ⟨a, o, none⟩ ∧ a < w.heap.size ∧ ∀ (i : Nat) (x : Dw), l[i]? = some x → w.rangeAt a (o + i * 9) x.C
theorem Dwp.In.ext {ad : Option Addr} {cap : Nat} {l : List Dw} {w w' : World} (h : Dwp.In ad cap l w) (k : Ex w w') : Dwp.In ad cap l w' :=
 ⟨h.len, h.nil, fun i x hx => (h.ins i x hx).ext k, fun h0 => by
  obtain ⟨a, o, e, hB, hc⟩ := h.read h0
  exact ⟨a, o, e, Nat.lt_of_lt_of_le hB k.sz, fun i x hx j v hv => (Below.cell (p := ⟨a, o + i * 9 + j, none⟩) k hB).trans (hc i x hx j v hv)⟩⟩
theorem ld_dwk {o : Oper} {a : Act} {w : World} {K : Act → World → Prop} {Q : Exit → Act → World → Prop} (y : Operand) (g off : Nat) (x : Dw) (ho : o.op = .load 76 y) (ha : a.eval y = .pointer (some ⟨g, off, none⟩)) (h : w.rangeAt g off x.C) (hk : K (a.put o.dst x.k.V) w) : o.wp Try.prog a w K Q := by
 obtain ⟨dd, hd⟩ : ∃ d, Try.prog.underlying 76 = some d ∧ d.isRow = true := ⟨_, Try.underlying76, rfl⟩
 exact wp_load_mid 76 y ho g off ha x.k.C dd (fun j u hu => h j u (by unfold Dw.C; rw [List.getElem?_append_left (List.getElem?_eq_some_iff.1 hu).1]; exact hu)) hd.1 hd.2 (by rw [Try.sizeKq]; rfl) hk
structure DN (w : World) (x : Dt) : Prop where
 q : x.q.Ok
 r : x.r.Ok
 qs : SN9 w x.q.sec
 rs : SN9 w x.r.sec
theorem DN.ext {w w' : World} {x : Dt} (h : DN w x) (k : Ex w w') : DN w' x := ⟨h.q, h.r, h.qs.ext k, h.rs.ext k⟩
theorem DN.kt {S : List Nat} {B : Nat} {w w' : World} {x : Dt} (h : DN w x) (k : Kt S B w w') (hs : 5 ∉ S) : DN w' x := ⟨h.q, h.r, h.qs.kt k hs, h.rs.kt k hs⟩
theorem DN.di {w : World} {x : Dt} (h : DN w x) : DI9 w x := ⟨⟨h.q, h.qs.1⟩, ⟨h.r, h.rs.1⟩⟩
theorem Dt.C_one (x : Dt) : ∀ u ∈ x.C, u.oneCell' = true := by
 have := x.one
 rw [List.all_toArray] at this
 exact List.all_eq_true.1 this
structure DRow (w : World) (B : Nat) (v : Value) (xs : List Dt) : Prop where
 row : w.ownsRow B 149 68 v xs.length (xs.flatMap Dt.C)
 ins : ∀ (i : Nat) (x : Dt), xs[i]? = some x → DN w x
theorem DRow.nil (w : World) (B : Nat) : DRow w B (.slice none 0 0) [] := ⟨World.ownsRow_nil _ _ _ _, fun i x hx => by simp at hx⟩
theorem DRow.ext {w w' : World} {B : Nat} {v : Value} {xs : List Dt} (h : DRow w B v xs) (k : Ex w w') : DRow w' B v xs := ⟨k.row h.row, fun i x hx => (h.ins i x hx).ext k⟩
theorem DRow.kt {S : List Nat} {B B' : Nat} {w w' : World} {v : Value} {xs : List Dt} (h : DRow w B v xs) (k : Kt S B' w w') (h1 : 149 ∉ S) (h2 : 5 ∉ S) : DRow w' B v xs := ⟨k.row h.row h1, fun i x hx => (h.ins i x hx).kt k h2⟩
theorem DRow.inn {w : World} {B : Nat} {v : Value} {xs : List Dt} (h : DRow w B v xs) : ∃ ad cap, v = .slice ad xs.length cap ∧ Dp.In ad cap xs w := by
 obtain ⟨ad, cap, e, hnil, hc, _, hr⟩ := own_rd h.row
 have H : ∀ x ∈ xs, x.C.length = 68 := fun x hx => by
  obtain ⟨i, hi, e⟩ := List.getElem_of_mem hx
  have h1 := h.ins i x (by rw [List.getElem?_eq_getElem hi, e])
  exact Dt.len h1.q h1.r
 exact ⟨ad, cap, e, hc, hnil, fun i x hx => (h.ins i x hx).di, gflat_back Dt.C 68 H hr⟩
theorem DRow.app {w w2 : World} {B : Nat} {v v' : Value} {xs : List Dt} {z : Dt} (h : DRow w B v xs) (k : Kt [149] B w w2) (hr : w2.ownsRow B 149 68 v' (xs.length + 1) (xs.flatMap Dt.C ++ z.C)) (hz : DN w z) : DRow w2 B v' (xs ++ [z]) :=
 ⟨by rw [List.length_append, List.flatMap_append]; simpa using hr, fun i x hx => by
  rcases List.mem_append.1 (List.mem_of_getElem? hx) with h1 | h1
  ·obtain ⟨j, hj, e⟩ := List.getElem_of_mem h1
   exact (h.ins j x (by rw [List.getElem?_eq_getElem hj, e])).kt k (by decide)
  ·rw [List.mem_singleton.1 h1]; exact hz.kt k (by decide)⟩
theorem PStep.sec64 {xs xs' : List Vt} {q : Qc} {y : Rc} (h : PStep xs q y xs') : y.sec.length ≤ 64 := by
 rcases h with ⟨_, rfl, _⟩ | ⟨hq, x, k, hg, hk, h⟩
 ·decide
 have hd : (doC x.ct q).2.1.sec.length ≤ 64 := by
  have hkd := do_kind hq hk
  generalize doC x.ct q = d at hkd ⊢
  obtain ⟨d1, d2, d3⟩ := d
  simp only at hkd ⊢
  cases hkd with
  | told _ hv _ _ => exact (Vc.right_sec hv).1
  | _ => exact Nat.zero_le _
 rcases h with ⟨_, e, _⟩ | ⟨_, _, _, e, _⟩ | ⟨_, e, _⟩
 ·rw [e]; exact hd
 ·rw [e]; exact Nat.zero_le _
 rw [e]; exact hd
set_option maxRecDepth 100000 in
theorem built_dt (m : Int) (q : Qt) (r : Rt) (hq : q.Ok) (hr : r.Ok) : Try.prog.built 149 [(0, .int .i64 m), (1, q.V), (2, r.V)] = some (Dt.mk m q r).C.toArray := by
 obtain ⟨op, id, pin, sec, lim, own, key, client, num⟩ := q
 obtain ⟨why, id2, gen, left, sec2, client2, num2⟩ := r
 obtain ⟨id0, id1, id2, id3, rfl⟩ := len4 hq.idN
 obtain ⟨_, _, _, _, _, _, _, _, _, _, _, _, _, _, _, _, rfl⟩ := len16 hq.pinN
 obtain ⟨_, _, _, _, _, _, _, _, _, _, _, _, _, _, _, _, rfl⟩ := len16 hq.ownN
 obtain ⟨_, _, _, _, _, _, _, _, _, _, _, _, _, _, _, _, rfl⟩ := len16 hq.keyN
 obtain ⟨ie0, ie1, ie2, ie3, rfl⟩ := len4 hr.idN
 kernel_rfl
theorem Try.infoU8s : (Try.prog.info? 5).map (fun i => (i.zero, i.size, i.bytes)) = some (some (.int .u8 0), 1, 1) := by kernel_rfl
theorem wp_xapp {o : Oper} {a : Act} {w : World} {K : Act → World → Prop} {Q : Exit → Act → World → Prop} (s x : Operand) (g : Nat) (fr : Nat × Nat) (p : Pt) (hop : o.op = .call { callee := .builtin .append, args := #[s, x], argTypes := #[25, 25] }) (hs : a.eval s = .slice (some ⟨g, 0, none⟩) 1 1) (hb : w.heap[g]? = some (.cells #[.int .u8 120] 5 fr)) (hx : a.eval x = p.V) (hp : p.In w w.heap.size) (hl : p.l.length ≤ 64)
  (h : ∀ (z : Pt) w', SN9 w' z → Ex w w' → K (a.put o.dst z.V) w') : o.wp Try.prog a w K Q := by
 obtain ⟨ad, cap, l⟩ := p
 by_cases h0 : 0 < l.length
 ·obtain ⟨b, oo, e, hB, hc⟩ := hp.read h0
  simp only at e
  subst e
  have hrs : Rd w (some ⟨g, 0, none⟩) 1 1 [.int .u8 120] := ⟨rfl, fun _ => ⟨g, 0, rfl, blk_lt hb, fun j u hu => by
   have hj : j < 1 := (List.getElem?_eq_some_iff.1 hu).1
   obtain rfl : j = 0 := by omega
   cases hu
   simp only [World.cell?, hb]
   rfl⟩⟩
  have hrx : Rd w (some ⟨b, oo, none⟩) l.length 1 (Lib.byteCells l) := ⟨by rw [byteCells_len, Nat.mul_one], fun _ => ⟨b, oo, rfl, hB, fun j u hu => by
   have hj : j < l.length := by have := (List.getElem?_eq_some_iff.1 hu).1; rwa [byteCells_len] at this
   rw [hc j hj, ← hu, byteCells_get l j hj]
   simp [hj]⟩⟩
  refine wp_full s x 25 5 (.int .u8 0) 1 1 hop Try.underlying25 Try.infoU8s rfl (by decide) 0 (Nat.zero_le _) (some ⟨g, 0, none⟩) 1 [.int .u8 120] hs hrs (fun h => by cases h) ⟨b, oo, none⟩ l.length cap (Lib.byteCells l) hx hrx h0 (fun u hu => byteCells_one hu) (by simp only at hl; omega) (by simp only at hl; omega) (fun v' w' r1 r2 => ?_)
  have ow : ownU w' 0 v' (120 :: l) := by
   unfold ownU
   have e1 : (120 :: l : List UInt8).length = 1 + l.length := by rw [List.length_cons, Nat.add_comm]
   rw [e1]; exact r1
  obtain ⟨z, rfl, _, hz⟩ := own_pn ow
  exact h z w' hz.sn r2
 ·obtain ⟨i0, hi0, hz0, hz1, hz2⟩ := info_parts Try.infoU8s
  have hl0 : l.length = 0 := by omega
  have hx2 : a.eval x = .slice ad 0 cap := by rw [hx]; unfold Pt.V; simp only [hl0]
  have hsrc : Src Try.prog i0.size 25 (.slice ad 0 cap) 0 [] w := by
   cases ad with
   | none => exact Src.ofNil w Try.underlying25 cap
   | some A => exact Src.ofSlice w Try.underlying25 A 0 cap [] (by simp) (fun j u h => by cases h) (fun u h => by cases h)
  have hrun := run_append_nothing (P := Try.prog) (ty := o.type) w 25 25 5 i0 Try.underlying25 hi0 (some ⟨g, 0, none⟩) 1 1 (Nat.le_refl _) _ hsrc
  have hsn : SN9 w ⟨some ⟨g, 0, none⟩, 1, [120]⟩ := ⟨⟨Nat.le_refl _, (fun h => by cases h), fun _ => ⟨g, 0, rfl, blk_lt hb, fun i hi => by
   have hi : i < 1 := hi
   obtain rfl : i = 0 := by omega
   simp only [World.cell?, hb]
   rfl⟩⟩, fun a e => by cases e; exact ⟨_, _, hb⟩⟩
  unfold Oper.wp
  simp [execOp, hop, resolve, invoke, builtin, hs, hx2, hrun, Result.andThen]
  exact h _ w hsn (Ex.refl w)
theorem w64lo (n : Int) : -9223372036854775808 ≤ wrap64 n := by unfold wrap64; omega
theorem w64hi (n : Int) : wrap64 n ≤ 9223372036854775807 := by unfold wrap64; omega
theorem wrapu_lo (n : Int) : 0 ≤ IntKind.u64.wrap n := by
 unfold IntKind.wrap
 simp only [IntKind.bits, IntKind.signed]
 simp
 omega
theorem wrapu_hi (n : Int) : IntKind.u64.wrap n < 18446744073709551616 := by
 unfold IntKind.wrap
 simp only [IntKind.bits, IntKind.signed]
 simp
 omega
set_option maxHeartbeats 8000000 in
set_option maxRecDepth 100000 in
theorem made_any (ad : Option Addr) (cap : Nat) (l : List Dw) (w : World) (hL : l.length ≤ 9223372036854775807) (hin : Dwp.In ad cap l w) : Calls Try.prog 44 #[.slice ad l.length cap, .int .i64 40] w fun e w' => ∃ v ds, e = .returned v ∧ DRow w' w.heap.size v ds ∧ ds.length ≤ 40 ∧ Ex w w' := by
 have hcv := fun (w : World) (C : Array Value) (n c : Nat) => Lib.run_convert_bytes_const (P := Try.prog) w 25 5 C n c Try.underlying25 Try.underlying5
 obtain ⟨n, hn⟩ : ∃ n, n = l.length := ⟨_, rfl⟩
 rw [show (Value.slice ad l.length cap) = .slice ad n cap by rw [hn]]
 rw [← hn] at hL
 have HN := Hi hn
 have HIN := Hi hin
 clear hn hin
 go_enter Try.func44, Try.ntmps44
 go_wp2_with (first | ((with_reducible refine so2 [76, 4000+149] ?_ ?_); (focus rfl)) | (with_reducible refine stop_app ?_) | (with_reducible refine stop_bs (t := 96) ?_))
 refine at9 (by go_simp) fun K0 hK => wp_build _ _ rfl _ built_pl (hK _ _ ?_)
 clear hK
 go_wp2_with (first | ((with_reducible refine so2 [76, 4000+149] ?_ ?_); (focus rfl)) | (with_reducible refine stop_app ?_) | (with_reducible refine stop_bs (t := 96) ?_))
 have P0 : Hid (K.PB w (w.alloc (.cells #[.slice none 0 0] 147)) w.heap.size (.slice none 0 0) []) := Hi (K.PB.start (Nat.le_refl _) (Below.size (Ex.alloc w _)) (Bk.new rfl _ _))
 have X0 : Hid (Ex w (w.alloc (.cells #[.slice none 0 0] 147))) := Hi (Ex.alloc _ _)
 generalize hw1 : (w.alloc (.cells #[.slice none 0 0] 147)) = w1 at *
 obtain ⟨P, hP⟩ : ∃ P, P = w.heap.size := ⟨_, rfl⟩
 rw [← hP] at P0 ⊢
 clear hw1 hP
 go_loopw [6, 7] (fun v i wr => ∃ (k : Nat) (rv : Value) (xs : List Vt) (ds : List Dt), k ≤ n ∧ k ≤ 40 ∧ i = .int .i64 k ∧ xs.length ≤ k ∧ Hid (K.PB w wr P rv xs) ∧ Hid (∀ x ∈ xs, x.ct.right = true) ∧ Hid (DRow wr w.heap.size v ds ∧ ds.length = k) ∧ Hid (Ex w wr)) (fun _ i _ => 40 - (intOf i).toNat)
 case atStart => exact ⟨0, .slice none 0 0, [], [], by omega, by omega, rfl, Nat.le_refl _, P0, Hi (fun x hx => by simp at hx), Hi ⟨DRow.nil _ _, rfl⟩, X0⟩
 clear P0 X0
 obtain ⟨k, rv, xs, ds, hk, hk40, rfl, hxl, HP, HR, DR, BX⟩ := hrel
 by_cases hlt : k < n
 rotate_left
 ·have q1 : ¬ (k : Int) < (n : Int) := by omega
  go_wp2_with fail
  go_ret
  exact ⟨_, rfl, ds, DR.out.1, by have := DR.out.2; omega, BX.out⟩
 have q1 : (k : Int) < (n : Int) := by omega
 by_cases hlt2 : k < 40
 rotate_left
 ·have q2 : ¬ (k : Int) < 40 := by omega
  go_wp2_with fail
  go_ret
  exact ⟨_, rfl, ds, DR.out.1, by have := DR.out.2; omega, BX.out⟩
 have q2 : (k : Int) < 40 := by omega
 have q0 : (0 : Int) ≤ (k : Int) := by omega
 obtain ⟨ab, ofs, rfl, hab, hcc⟩ := HIN.out.read (by rw [← HN.out]; omega)
 obtain ⟨x, hx⟩ : ∃ x, l[k]? = some x := ⟨_, List.getElem?_eq_getElem (by rw [← HN.out]; exact hlt)⟩
 have XI := Hi ((HIN.out.ins k x hx).ext BX.out)
 have XRG : Hid (∀ wq, Ex w wq → wq.rangeAt ab (ofs + k * 9) x.C) := Hi (fun wq e j u hu => (Below.cell (p := ⟨ab, ofs + k * 9 + j, none⟩) e hab).trans (hcc k x hx j u hu))
 clear hcc hx hab
 go_wp2_with (first | ((with_reducible refine so2 [76, 4000+149] ?_ ?_); (focus rfl)) | (with_reducible refine stop_app ?_) | (with_reducible refine stop_bs (t := 96) ?_))
 refine at9 (by go_simp) fun K0 hK => ld_dwk _ ab (ofs + k * 9) x rfl rfl (XRG.out _ BX.out) (hK _ _ ?_)
 clear hK
 go_wp2_with (first | ((with_reducible refine so2 [76, 4000+149] ?_ ?_); (focus rfl)) | (with_reducible refine stop_app ?_) | (with_reducible refine stop_bs (t := 96) ?_))
 refine (req2_any x.k wr XI.out.k).mono ?_
 rintro e w4 ⟨q, rfl, hqi, _, xx, hqs⟩
 have QOK := Hi hqi.ok
 have QS := Hi hqs
 replace HP := Hi (HP.out.ext xx)
 replace DR := Hi (And.intro (DR.out.1.ext xx) DR.out.2)
 replace BX := Hi (Ex.trans BX.out xx)
 clear hqi hqs xx
 go_wp2_with (first | ((with_reducible refine so2 [76, 4000+149] ?_ ?_); (focus rfl)) | (with_reducible refine stop_app ?_) | (with_reducible refine stop_bs (t := 96) ?_))
 refine at9 (by go_simp) fun K0 hK => st_q _ _ w4.heap.size q rfl rfl rfl QOK.out (Bk.new rfl _ _) (by rfl) (fun w5 hd ho => hK _ _ ?_)
 clear hK
 have x5 : Ex w4 w5 := ho.below w4.heap.size (Nat.le_refl _) w4 (Ex.alloc w4 _)
 have HQ := Hi hd
 replace QS := Hi (QS.out.ext x5)
 obtain ⟨gq, hg⟩ : ∃ g, g = w4.heap.size := ⟨_, rfl⟩
 rw [← hg] at HQ ⊢
 replace HP := Hi (HP.out.ext x5)
 replace DR := Hi (And.intro (DR.out.1.ext x5) DR.out.2)
 replace BX := Hi (Ex.trans BX.out x5)
 clear hd ho x5 hg QOK
 go_wp2_with (first | ((with_reducible refine so2 [76, 4000+149] ?_ ?_); (focus rfl)) | (with_reducible refine stop_app ?_) | (with_reducible refine stop_bs (t := 96) ?_))
 refine at9 (by go_simp) fun K0 hK => ld_q _ gq q rfl rfl HQ.out (hK _ _ ?_)
 clear hK
 go_wp2_with (first | ((with_reducible refine so2 [76, 4000+149] ?_ ?_); (focus rfl)) | (with_reducible refine stop_app ?_) | (with_reducible refine stop_bs (t := 96) ?_))
 refine (K.pdo_any w P rv xs q w5 HP.out HR.out (by omega) ⟨HQ.out.1, QS.out.1⟩ (Or.inr QS.out)).mono ?_
 rintro e w6 ⟨y, rv2, xs2, rfl, yok, ypn, hpb, hst, hmd, _⟩
 have hkt : Kt [147] w.heap.size w5 w6 := Kt.md hmd HP.out.lo HP.out.blk (List.mem_singleton.2 rfl)
 have YOK := Hi yok
 have YPN := Hi ypn
 have HP2 := Hi hpb
 have HR2 := Hi (pstep_right HR.out hst)
 have hl2 := hst.len9
 have Y64 := Hi hst.sec64
 have HQ2 : Hid (QB w6 gq q) := Hi ⟨HQ.out.1, hkt.bk HQ.out.2 (by decide)⟩
 have QS2 := Hi (QS.out.sn.kt hkt (by decide))
 replace DR := Hi (And.intro (DR.out.1.kt hkt (by decide) (by decide)) DR.out.2)
 replace BX : Hid (Ex w w6) := Hi (Below.trans BX.out hkt.below)
 clear yok ypn hpb hst hmd hkt HP HR HQ QS
 go_wp2_with (first | ((with_reducible refine so2 [76, 4000+149] ?_ ?_); (focus rfl)) | (with_reducible refine stop_app ?_) | (with_reducible refine stop_bs (t := 96) ?_))
 refine at9 (by go_simp) fun K0 hK => st_r _ _ w6.heap.size y rfl rfl rfl YOK.out (Bk.new rfl _ _) (by rfl) (fun w7 hd ho => hK _ _ ?_)
 clear hK
 have x3 : Ex w6 w7 := ho.below w6.heap.size (Nat.le_refl _) w6 (Ex.alloc w6 _)
 have hgl : w.heap.size ≤ w6.heap.size := Below.size BX.out
 obtain ⟨g, hg⟩ : ∃ g, g = w6.heap.size := ⟨_, rfl⟩
 rw [← hg] at hd hgl ⊢
 have HD := Hi hd
 have YS := Hi (YPN.out.sn.ext x3)
 replace HP2 := Hi (HP2.out.ext x3)
 replace HQ2 := Hi (HQ2.out.ext x3)
 replace QS2 := Hi (QS2.out.ext x3)
 replace DR := Hi (And.intro (DR.out.1.ext x3) DR.out.2)
 replace BX := Hi (Ex.trans BX.out x3)
 clear hd ho hg x3 YPN
 obtain ⟨t, ht⟩ : ∃ t, t = x.turn := ⟨_, rfl⟩
 have c8 : w7.cell? ⟨ab, ofs + k * 9 + 8, none⟩ = some (.int .i64 t) := by rw [ht]; exact XRG.out _ BX.out 8 _ rfl
 clear ht XRG XI
 go_upto_block 2 with (first | ((with_reducible refine so2 [76, 4000+149] ?_ ?_); (focus rfl)) | (with_reducible refine stop_app ?_) | (with_reducible refine stop_bs (t := 96) ?_))
 clear c8
 go_cut [] (fun wd => ∃ z : Rt, Hid (RB wd g z) ∧ Hid (SN9 wd z.sec) ∧ Hid (Kt [83] w.heap.size w7 wd))
 case first =>
  obtain ⟨r0, r5, r6, r7, r8, r9⟩ := HD.out.cells
  unfold Pt.V at r7
  by_cases t1 : t = 1
  ·subst t1
   go_wp2_with ((with_reducible refine so4 [1000 + 3] ?_ ?_); (focus rfl))
   refine at9 (by go_simp) fun K0 hK => st_rleft (by kernel_rfl) _ _ g y _ rfl rfl rfl (by first | exact bits_lo_i64 _ _ _ | omega) (by first | exact bits_hi_i64 _ _ _ | omega) HD.out (fun w8 hd ho => hK _ _ ?_)
   clear hK
   have HB := Hi hd
   have hkt : Kt [83] w.heap.size w7 w8 := Kt.md ho.md hgl HD.out.2 (List.mem_singleton.2 rfl)
   have HS := Hi (YS.out.kt hkt (by decide))
   have HKT := Hi hkt
   clear hd ho hkt r0 r5 r6 r7 r8 r9
   go_wp2_with fail
   go_meet
   case rel => exact ⟨_, HB, HS, HKT⟩
  by_cases t2 : t = 2
  ·subst t2
   go_wp2_with ((with_reducible refine so4 [1000 + 45] ?_ ?_); (focus rfl))
   refine at9 (by go_simp) fun K0 hK => st_rwhy (by kernel_rfl) _ _ g y _ rfl rfl rfl (by first | exact w64lo _ | omega) (by first | exact w64hi _ | omega) HD.out (fun w8 hd ho => hK _ _ ?_)
   clear hK
   have HB := Hi hd
   have hkt : Kt [83] w.heap.size w7 w8 := Kt.md ho.md hgl HD.out.2 (List.mem_singleton.2 rfl)
   have HS := Hi (YS.out.kt hkt (by decide))
   have HKT := Hi hkt
   clear hd ho hkt r0 r5 r6 r7 r8 r9
   go_wp2_with fail
   go_meet
   case rel => exact ⟨_, HB, HS, HKT⟩
  by_cases t3 : t = 3
  ·subst t3
   go_wp2_with (first | (with_reducible refine stop_load (t := 25) ?_) | (with_reducible refine stop_app ?_) | ((with_reducible refine so4 [1000 + 25] ?_ ?_); (focus rfl)))
   (with_reducible refine ⟨?_⟩)
   change wpList _ _ _ _ _ (w7.alloc (.cells #[.int .u8 120] 5 (1, 2)))
   have xa : Ex w7 (w7.alloc (.cells #[.int .u8 120] 5 (1, 2))) := Ex.alloc _ _
   have hb : (w7.alloc (.cells #[.int .u8 120] 5 (1, 2))).heap[w7.heap.size]? = some (.cells #[.int .u8 120] 5 (1, 2)) := by unfold World.alloc; exact Array.getElem?_push_size
   generalize hw9 : (w7.alloc (.cells #[.int .u8 120] 5 (1, 2))) = w8 at *
   obtain ⟨gs, hgs⟩ : ∃ g, g = w7.heap.size := ⟨_, rfl⟩
   rw [← hgs] at hb ⊢
   have HD8 := Hi (HD.out.ext xa)
   have YS8 := Hi (YS.out.ext xa)
   have HB8 := Hi hb
   have XA := Hi xa
   clear hw9 hgs hb xa r0 r5 r6 r7 r8 r9
   obtain ⟨r0, r5, r6, r7, r8, r9⟩ := HD8.out.cells
   unfold Pt.V at r7
   go_wp2_with (first | (with_reducible refine stop_app ?_) | ((with_reducible refine so4 [1000 + 25] ?_ ?_); (focus rfl)))
   refine at9 (by go_simp) fun K0 hK => wp_xapp _ _ gs (1, 2) y.sec rfl rfl HB8.out rfl YS8.out.1 Y64.out (fun z w9 hz xz => hK _ _ ?_)
   clear hK
   have HZ := Hi hz
   have HD9 := Hi (HD8.out.ext xz)
   have XZ := Hi (Ex.trans XA.out xz)
   clear hz xz r0 r5 r6 r7 r8 r9 HB8 YS8 HD8 XA
   go_wp2_with (first | (with_reducible refine stop_app ?_) | ((with_reducible refine so4 [1000 + 25] ?_ ?_); (focus rfl)))
   refine at9 (by go_simp) fun K0 hK => st_rsec (by kernel_rfl) _ _ g y z rfl rfl rfl HD9.out (fun w10 hd ho => hK _ _ ?_)
   clear hK
   have HB := Hi hd
   have hkt : Kt [83] w.heap.size w9 w10 := Kt.md ho.md hgl HD9.out.2 (List.mem_singleton.2 rfl)
   have HS := Hi (HZ.out.kt hkt (by decide))
   have HKT : Hid (Kt [83] w.heap.size w7 w10) := Hi ((XZ.out.kt (Below.size BX.out)).trans hkt)
   clear hd ho hkt HZ HD9 XZ
   go_wp2_with fail
   go_meet
   case rel => exact ⟨_, HB, HS, HKT⟩
  by_cases t4 : t = 4
  ·subst t4
   go_wp2_with ((with_reducible refine so4 [1000 + 24] ?_ ?_); (focus rfl))
   refine at9 (by go_simp) fun K0 hK => st_rgen (by kernel_rfl) _ _ g y _ rfl rfl rfl (by first | exact wrapu_lo _ | omega) (by first | exact wrapu_hi _ | omega) HD.out (fun w8 hd ho => hK _ _ ?_)
   clear hK
   have HB := Hi hd
   have hkt : Kt [83] w.heap.size w7 w8 := Kt.md ho.md hgl HD.out.2 (List.mem_singleton.2 rfl)
   have HS := Hi (YS.out.kt hkt (by decide))
   have HKT := Hi hkt
   clear hd ho hkt r0 r5 r6 r7 r8 r9
   go_wp2_with fail
   go_meet
   case rel => exact ⟨_, HB, HS, HKT⟩
  by_cases t5 : t = 5
  ·subst t5
   go_wp2_with ((with_reducible refine so4 [1000 + 24] ?_ ?_); (focus rfl))
   refine at9 (by go_simp) fun K0 hK => st_rnum (by kernel_rfl) _ _ g y _ rfl rfl rfl (by first | exact wrapu_lo _ | omega) (by first | exact wrapu_hi _ | omega) HD.out (fun w8 hd ho => hK _ _ ?_)
   clear hK
   have HB := Hi hd
   have hkt : Kt [83] w.heap.size w7 w8 := Kt.md ho.md hgl HD.out.2 (List.mem_singleton.2 rfl)
   have HS := Hi (YS.out.kt hkt (by decide))
   have HKT := Hi hkt
   clear hd ho hkt r0 r5 r6 r7 r8 r9
   go_wp2_with fail
   go_meet
   case rel => exact ⟨_, HB, HS, HKT⟩
  clear r0 r5 r6 r7 r8 r9
  go_wp2_with fail
  go_meet
  case rel => exact ⟨y, HD, YS, Hi (Kt.refl _ _ _)⟩
 clear HD YS Y64 YOK
 obtain ⟨z, HD, ZS, HKT⟩ := hcut
 replace HP2 := Hi (HP2.out.kt HKT.out (by decide) (by decide) (by decide))
 replace HQ2 : Hid (QB wc gq q) := Hi ⟨HQ2.out.1, HKT.out.bk HQ2.out.2 (by decide)⟩
 replace QS2 := Hi (QS2.out.kt HKT.out (by decide))
 replace DR := Hi (And.intro (DR.out.1.kt HKT.out (by decide) (by decide)) DR.out.2)
 replace BX : Hid (Ex w wc) := Hi (Below.trans BX.out HKT.out.below)
 clear HKT
 go_wp2_with (first | ((with_reducible refine so2 [76, 4000+149] ?_ ?_); (focus rfl)) | (with_reducible refine stop_app ?_) | (with_reducible refine stop_bs (t := 96) ?_))
 refine at9 (by go_simp) fun K0 hK => ld_q _ gq q rfl rfl HQ2.out (hK _ _ ?_)
 clear hK
 go_wp2_with (first | ((with_reducible refine so2 [76, 4000+149] ?_ ?_); (focus rfl)) | (with_reducible refine stop_app ?_) | (with_reducible refine stop_bs (t := 96) ?_))
 refine at9 (by go_simp) fun K0 hK => ld_r _ g z rfl rfl HD.out (hK _ _ ?_)
 clear hK
 go_wp2_with (first | ((with_reducible refine so2 [76, 4000+149] ?_ ?_); (focus rfl)) | (with_reducible refine stop_app ?_) | (with_reducible refine stop_bs (t := 96) ?_))
 refine at9 (by go_simp) fun K0 hK => wp_build _ _ rfl _ (built_dt _ q z HQ2.out.1 HD.out.1) (hK _ _ ?_)
 clear hK
 have DZ : Hid (∀ m, DN wc ⟨m, q, z⟩) := Hi (fun m => ⟨HQ2.out.1, HD.out.1, QS2.out, ZS.out⟩)
 generalize hdz : (k : Int) % 3 = m3
 obtain ⟨D, hD⟩ : ∃ D : Dt, D = ⟨m3, q, z⟩ := ⟨_, rfl⟩
 replace DZ := Hi (DZ.out m3)
 rw [← hD] at DZ ⊢
 clear hD hdz HD ZS HQ2 QS2
 go_wp2_with (first | ((with_reducible refine so2 [76, 4000+149] ?_ ?_); (focus rfl)) | (with_reducible refine stop_app ?_) | (with_reducible refine stop_bs (t := 96) ?_))
 refine at9 (by go_simp) fun K0 hK => wp_bs1 96 149 _ 68 192 _ D.C rfl Try.underlying96 Try.infoDt (by rfl) (by decide) (by decide) (Dt.len DZ.out.q DZ.out.r) rfl (hK _ _ ?_)
 clear hK
 have xa := Ex.alloc wc (.cells D.C.toArray 149)
 have NB := Hi (Bk.new (g := wc.heap.size) (w := wc) rfl 149 D.C.toArray)
 replace HP2 := Hi (HP2.out.ext xa)
 replace DZ := Hi (DZ.out.ext xa)
 replace DR := Hi (And.intro (DR.out.1.ext xa) DR.out.2)
 replace BX := Hi (Ex.trans BX.out xa)
 generalize hw5 : wc.alloc (.cells D.C.toArray 149) = wd at *
 obtain ⟨g2, hg⟩ : ∃ g, g = wc.heap.size := ⟨_, rfl⟩
 rw [← hg] at NB ⊢
 clear hw5 hg xa
 have MR := Hi (Many.rd (n := 1) (sz := 68) ⟨g2, rfl, NB.out⟩ (Dt.len DZ.out.q DZ.out.r))
 go_wp2_with (first | ((with_reducible refine so2 [76, 4000+149] ?_ ?_); (focus rfl)) | (with_reducible refine stop_app ?_) | (with_reducible refine stop_bs (t := 96) ?_))
 obtain ⟨adx, ex, nx, rx⟩ := MR.out
 cases ex
 have RX := Hi rx
 clear rx nx MR
 refine at9 (by go_simp) fun K0 hK => wp_rd _ _ 96 149 _ 68 192 rfl Try.underlying96 Try.infoDt (by rfl) (by decide) w.heap.size ds.length _ _ rfl DR.out.1.row BX.out.sz' _ 1 1 _ rfl RX.out (Nat.le_refl _) (fun h => by cases h) D.C_one (by have := DR.out.2; omega) (by have := DR.out.2; omega) (fun v5 we r1 r2 => hK _ _ ?_)
 clear hK
 replace BX := Hi (show Ex w we from Below.trans (show Below w.heap.size w _ from BX.out) r2.below)
 have HP3 := Hi (HP2.out.kt r2 (by decide) (by decide) (by decide))
 have DR3 : Hid (DRow we w.heap.size v5 (ds ++ [D]) ∧ (ds ++ [D]).length = k + 1) := Hi ⟨DR.out.1.app r2 r1 DZ.out, by rw [List.length_append, DR.out.2]; rfl⟩
 clear r1 r2 HP2 DR DZ NB RX
 go_wp2_with fail
 go_roundw
 case rel => exact ⟨k + 1, rv2, xs2, ds ++ [D], by omega, by omega, by go_num, by omega, HP3, HR2, DR3, BX⟩
 case measure => simp [intOf]; omega
end Go.Proofs.Ytmjfnpmnhehnkaa
namespace Go.Proofs.Ytmjfnpmnhehnkaa
open Go.ChangeShapes Go.WideShapes Go.ChangeAt Go.RowKit Go.Deep
set_option maxRecDepth 100000 in
theorem open_bytes {H : Type} {enc : TypeId × Value → H} {W : World} {n : Nat} {cs : List Value} {x : DataW H × List MemPlace} (h : DataW.trod enc Try.prog W 0 (fun _ => true) true n 25 cs = some x) :
  ∃ p : Pt, cs = [p.V] ∧ p.In W W.heap.size ∧ p.l.length ≤ 9223372036854775807 := by
 rcases open_ints Try.underlying25 Try.underlying5 Try.cells5 h with ⟨hcs, hx⟩ | ⟨a, len, cap, zs, hcs, _, hl, hm, hz, hx, hcell, hwz⟩
 ·exact ⟨⟨none, 0, []⟩, hcs, ⟨Nat.le_refl _, fun _ => rfl, fun h => absurd h (Nat.lt_irrefl 0)⟩, Nat.zero_le _⟩
 simp only [if_true] at hz
 have hlen : ((zs.take len).map fun n => UInt8.ofNat n.toNat).length = len := by simp; omega
 refine ⟨⟨some a, cap, (zs.take len).map fun n => UInt8.ofNat n.toNat⟩, by rw [hcs]; unfold Pt.V; simp only [hlen], ⟨by simp only [hlen]; exact hl, (fun h => by cases h), fun h0 => ?_⟩, by simp only [hlen]; unfold maxLen at hm; omega⟩
 simp only [hlen] at h0 ⊢
 obtain ⟨ab, ao, spot⟩ := a
 have hspot : spot = none := by simpa [Addr.add] using World.cell?_spot (hcell 0 (by omega))
 subst hspot
 refine ⟨ab, ao, rfl, by have := World.block_lt_of_cell? W _ (hcell 0 (by omega)); simpa [Addr.add] using this, fun i hi => ?_⟩
 have hcj := hcell i (by omega)
 rw [Addr.add_lit] at hcj
 rw [hcj]
 have hb := range_u8 hwz i
 have e : zs[i]? = some (zs[i]'(by omega)) := List.getElem?_eq_getElem (by omega)
 have e2 : (List.map (fun n => UInt8.ofNat n.toNat) (zs.take len)).getD i 0 = UInt8.ofNat (zs[i]'(by omega)).toNat := by
  simp [List.getD, hi, e]
 rw [e2, List.getD_eq_getElem?_getD, e]
 rw [e] at hb
 simp only [Option.getD_some] at hb ⊢
 congr 2
 simp only [UInt8.toNat_ofNat']
 omega
theorem Try.cells3 : Try.prog.cellsOf 3 = 1 := by kernel_rfl
theorem Try.cells24 : Try.prog.cellsOf 24 = 1 := by kernel_rfl
theorem Try.cells25 : Try.prog.cellsOf 25 = 1 := by kernel_rfl
theorem wf_i64 {n : Int} (h : (Lit.int .i64 n).wf = true) : -9223372036854775808 ≤ n ∧ n ≤ 9223372036854775807 := by
 simp [Lit.wf, IntKind.min, IntKind.max, IntKind.signed, IntKind.bits] at h; omega
theorem wf_u64 {n : Int} (h : (Lit.int .u64 n).wf = true) : 0 ≤ n ∧ n < 18446744073709551616 := by
 simp [Lit.wf, IntKind.min, IntKind.max, IntKind.signed, IntKind.bits] at h; omega
theorem Try.cells76 : Try.prog.cellsOf 76 = 8 := by kernel_rfl
def fields76 : List Field := [⟨ "Op", 3, 0, false, "", "", 0⟩, ⟨ "ID", 3, 1, false, "", "", 8⟩, ⟨ "Pin", 3, 2, false, "", "", 16⟩, ⟨ "Owner", 3, 3, false, "", "", 24⟩, ⟨ "Limit", 3, 4, false, "", "", 32⟩, ⟨ "Client", 3, 5, false, "", "", 40⟩, ⟨ "Num", 24, 6, false, "", "", 48⟩, ⟨ "Secret", 25, 7, false, "", "", 56⟩]
theorem fields76_is : (Try.prog.fieldsOf 76).toList = fields76 := by
 unfold Program.fieldsOf
 rw [Try.underlying76]
 rfl
theorem under76 : Try.prog.underlying 76 = some (.struct (Try.prog.fieldsOf 76)) := by
 unfold Program.fieldsOf; rw [Try.underlying76]
set_option maxRecDepth 100000 in
theorem kq_cells {H : Type} {enc : TypeId × Value → H} {W : World} {n : Nat} {cs : List Value} {x : DataW H × List MemPlace} (hl : cs.length = 8) (h : DataW.trod enc Try.prog W 0 (fun _ => true) true n 76 cs = some x) :
  ∃ z : Kq, cs = z.C ∧ z.In W := by
 obtain ⟨xs, k, _, _, _, hlen, hf⟩ := DataW.trod_struct under76 h
 have hfs : (Try.prog.fieldsOf 76).toList = fields76 := fields76_is
 have g0 : (Try.prog.fieldsOf 76)[0]? = some ⟨ "Op", 3, 0, false, "", "", 0⟩ := by rw [← Array.getElem?_toList, hfs]; rfl
 have g1 : (Try.prog.fieldsOf 76)[1]? = some ⟨ "ID", 3, 1, false, "", "", 8⟩ := by rw [← Array.getElem?_toList, hfs]; rfl
 have g2 : (Try.prog.fieldsOf 76)[2]? = some ⟨ "Pin", 3, 2, false, "", "", 16⟩ := by rw [← Array.getElem?_toList, hfs]; rfl
 have g3 : (Try.prog.fieldsOf 76)[3]? = some ⟨ "Owner", 3, 3, false, "", "", 24⟩ := by rw [← Array.getElem?_toList, hfs]; rfl
 have g4 : (Try.prog.fieldsOf 76)[4]? = some ⟨ "Limit", 3, 4, false, "", "", 32⟩ := by rw [← Array.getElem?_toList, hfs]; rfl
 have g5 : (Try.prog.fieldsOf 76)[5]? = some ⟨ "Client", 3, 5, false, "", "", 40⟩ := by rw [← Array.getElem?_toList, hfs]; rfl
 have g6 : (Try.prog.fieldsOf 76)[6]? = some ⟨ "Num", 24, 6, false, "", "", 48⟩ := by rw [← Array.getElem?_toList, hfs]; rfl
 have g7 : (Try.prog.fieldsOf 76)[7]? = some ⟨ "Secret", 25, 7, false, "", "", 56⟩ := by rw [← Array.getElem?_toList, hfs]; rfl
 have hn : xs.length = 8 := by rw [hlen, ← Array.length_toList, hfs]; rfl
 match xs, hn, cs, hl with
 | [y0, y1, y2, y3, y4, y5, y6, y7], _, [c0, c1, c2, c3, c4, c5, c6, c7], _ =>
  have f0 : DataW.trod enc Try.prog W 0 (fun _ => true) true k 3 (([c0, c1, c2, c3, c4, c5, c6, c7].drop 0).take (Try.prog.cellsOf 3)) = some y0 := hf 0 _ g0
  rw [Try.cells3] at f0
  obtain ⟨m0, e0, _, w0⟩ := DataW.trod_int Try.underlying3 f0
  have e0 : c0 = .int .i64 m0 := by simpa using e0
  have f1 : DataW.trod enc Try.prog W 0 (fun _ => true) true k 3 (([c0, c1, c2, c3, c4, c5, c6, c7].drop 1).take (Try.prog.cellsOf 3)) = some y1 := hf 1 _ g1
  rw [Try.cells3] at f1
  obtain ⟨m1, e1, _, w1⟩ := DataW.trod_int Try.underlying3 f1
  have e1 : c1 = .int .i64 m1 := by simpa using e1
  have f2 : DataW.trod enc Try.prog W 0 (fun _ => true) true k 3 (([c0, c1, c2, c3, c4, c5, c6, c7].drop 2).take (Try.prog.cellsOf 3)) = some y2 := hf 2 _ g2
  rw [Try.cells3] at f2
  obtain ⟨m2, e2, _, w2⟩ := DataW.trod_int Try.underlying3 f2
  have e2 : c2 = .int .i64 m2 := by simpa using e2
  have f3 : DataW.trod enc Try.prog W 0 (fun _ => true) true k 3 (([c0, c1, c2, c3, c4, c5, c6, c7].drop 3).take (Try.prog.cellsOf 3)) = some y3 := hf 3 _ g3
  rw [Try.cells3] at f3
  obtain ⟨m3, e3, _, w3⟩ := DataW.trod_int Try.underlying3 f3
  have e3 : c3 = .int .i64 m3 := by simpa using e3
  have f4 : DataW.trod enc Try.prog W 0 (fun _ => true) true k 3 (([c0, c1, c2, c3, c4, c5, c6, c7].drop 4).take (Try.prog.cellsOf 3)) = some y4 := hf 4 _ g4
  rw [Try.cells3] at f4
  obtain ⟨m4, e4, _, w4⟩ := DataW.trod_int Try.underlying3 f4
  have e4 : c4 = .int .i64 m4 := by simpa using e4
  have f5 : DataW.trod enc Try.prog W 0 (fun _ => true) true k 3 (([c0, c1, c2, c3, c4, c5, c6, c7].drop 5).take (Try.prog.cellsOf 3)) = some y5 := hf 5 _ g5
  rw [Try.cells3] at f5
  obtain ⟨m5, e5, _, w5⟩ := DataW.trod_int Try.underlying3 f5
  have e5 : c5 = .int .i64 m5 := by simpa using e5
  have f6 : DataW.trod enc Try.prog W 0 (fun _ => true) true k 24 (([c0, c1, c2, c3, c4, c5, c6, c7].drop 6).take (Try.prog.cellsOf 24)) = some y6 := hf 6 _ g6
  rw [Try.cells24] at f6
  obtain ⟨m6, e6, _, w6⟩ := DataW.trod_int Try.underlying24 f6
  have e6 : c6 = .int .u64 m6 := by simpa using e6
  have f7 : DataW.trod enc Try.prog W 0 (fun _ => true) true k 25 (([c0, c1, c2, c3, c4, c5, c6, c7].drop 7).take (Try.prog.cellsOf 25)) = some y7 := hf 7 _ g7
  rw [Try.cells25] at f7
  obtain ⟨p7, e7, in7, ln7⟩ := open_bytes f7
  have e7 : c7 = p7.V := by simpa using e7
  exact ⟨⟨m0, m1, m2, m3, m4, m5, m6, p7⟩, by rw [e0, e1, e2, e3, e4, e5, e6, e7]; rfl, ⟨wf_i64 w0, wf_i64 w1, wf_i64 w2, wf_i64 w3, wf_i64 w4, wf_i64 w5, (wf_u64 w6).1, (wf_u64 w6).2, in7, ln7⟩⟩
def KpRow (W : World) (v : Value) : Prop := ∃ (ad : Option Addr) (cap : Nat) (l : List Kq), v = .slice ad l.length cap ∧ Kp.In ad cap l W ∧ l.length ≤ 9223372036854775807
end Go.Proofs.Ytmjfnpmnhehnkaa
namespace Go.Proofs.Ytmjfnpmnhehnkaa
open Go.ChangeShapes Go.WideShapes Go.ChangeAt Go.RowKit Go.Deep
theorem seg_drop (cs : List Value) (o c : Nat) : cs.drop o = (cs.drop o).take c ++ cs.drop (o + c) := by
  rw [← List.drop_drop]; exact (List.take_append_drop c (cs.drop o)).symm
def byOf : Value → UInt8
  | .int _ z => UInt8.ofNat z.toNat
  | _ => 0
theorem byOf_int (b : UInt8) : byOf (.int .u8 (b.toNat : Int)) = b := by
  unfold byOf; simp
theorem open_row {H : Type} {enc : TypeId × Value → H} {P : Program} {w : World} {base : Nat} {spare : Nat → Bool} {held : Bool} {m n : Nat} {t e : TypeId} {cs : List Value} {x : DataW H × List MemPlace}
    (ht : P.underlying t = some (.array n e)) (he : P.underlying e = some (.int .u8)) (hce : P.cellsOf e = 1) (hct : P.cellsOf t = n) (h : DataW.trod enc P w base spare held m t cs = some x) :
    ∃ l : List UInt8, l.length = n ∧ cs = Lib.byteCells l := by
  obtain ⟨xs, m', _, _, hl, hx, hi⟩ := DataW.trod_array ht h
  rw [hct] at hl
  have key : ∀ i, i < n → ∃ b : UInt8, cs[i]? = some (.int .u8 (b.toNat : Int)) := by
    intro i h1
    have h2 := hi i h1
    rw [hce, Nat.mul_one, List.getElem?_eq_getElem (by omega)] at h2
    obtain ⟨z, h3, _, h5⟩ := DataW.trod_int he h2
    have hz : 0 ≤ z ∧ z < 256 := by
      simp [Lit.wf, IntKind.min, IntKind.max, IntKind.signed, IntKind.bits] at h5
      omega
    refine ⟨UInt8.ofNat z.toNat, ?_⟩
    have h6 : (cs.drop i).take 1 = [cs[i]] := by
      rw [List.drop_eq_getElem_cons (by omega)]; rfl
    rw [h6] at h3
    injection h3 with h3
    rw [List.getElem?_eq_getElem (by omega), h3]
    have : z.toNat < 256 := by omega
    rw [UInt8.toNat_ofNat_of_lt' (by simpa using this)]
    simp; omega
  refine ⟨(List.range n).map fun i => byOf (cs.getD i undef), by simp, ?_⟩
  apply List.ext_getElem?
  intro i
  by_cases h1 : i < n
  · obtain ⟨b, hb⟩ := key i h1
    have e1 : cs.getD i undef = .int .u8 (b.toNat : Int) := by simp [List.getD, hb]
    rw [hb]
    simp only [Lib.byteCells, List.getElem?_map, List.getElem?_range h1, Option.map_some, e1, byOf_int]
  rw [List.getElem?_eq_none (by omega), List.getElem?_eq_none (by simp [Lib.byteCells]; omega)]
theorem Try.cells32 : Try.prog.cellsOf 32 = 4 := by kernel_rfl
theorem Try.cells45 : Try.prog.cellsOf 45 = 1 := by kernel_rfl
theorem Try.cells83 : Try.prog.cellsOf 83 = 10 := by kernel_rfl
def fields83 : List Field := [⟨ "Why", 45, 0, false, "", "", 0⟩, ⟨ "ID", 32, 1, false, "", "", 8⟩, ⟨ "Gen", 24, 5, false, "", "", 16⟩, ⟨ "Left", 3, 6, false, "", "", 24⟩, ⟨ "Secret", 25, 7, false, "", "", 32⟩, ⟨ "Client", 3, 8, false, "", "", 56⟩, ⟨ "Num", 24, 9, false, "", "", 64⟩]
theorem fields83_is : (Try.prog.fieldsOf 83).toList = fields83 := by
  unfold Program.fieldsOf
  rw [Try.underlying83]
  rfl
theorem under83 : Try.prog.underlying 83 = some (.struct (Try.prog.fieldsOf 83)) := by
  unfold Program.fieldsOf; rw [Try.underlying83]
set_option maxRecDepth 100000 in
theorem rt_cells {H : Type} {enc : TypeId × Value → H} {W : World} {n : Nat} {cs : List Value} {x : DataW H × List MemPlace} (hl : cs.length = 10) (h : DataW.trod enc Try.prog W 0 (fun _ => true) true n 83 cs = some x) :
    ∃ z : Rt, cs = z.C ∧ RI W z := by
  obtain ⟨xs, k, _, _, _, hlen, hf⟩ := DataW.trod_struct under83 h
  have hfs : (Try.prog.fieldsOf 83).toList = fields83 := fields83_is
  have g0 : (Try.prog.fieldsOf 83)[0]? = some ⟨ "Why", 45, 0, false, "", "", 0⟩ := by rw [← Array.getElem?_toList, hfs]; rfl
  have g1 : (Try.prog.fieldsOf 83)[1]? = some ⟨ "ID", 32, 1, false, "", "", 8⟩ := by rw [← Array.getElem?_toList, hfs]; rfl
  have g2 : (Try.prog.fieldsOf 83)[2]? = some ⟨ "Gen", 24, 5, false, "", "", 16⟩ := by rw [← Array.getElem?_toList, hfs]; rfl
  have g3 : (Try.prog.fieldsOf 83)[3]? = some ⟨ "Left", 3, 6, false, "", "", 24⟩ := by rw [← Array.getElem?_toList, hfs]; rfl
  have g4 : (Try.prog.fieldsOf 83)[4]? = some ⟨ "Secret", 25, 7, false, "", "", 32⟩ := by rw [← Array.getElem?_toList, hfs]; rfl
  have g5 : (Try.prog.fieldsOf 83)[5]? = some ⟨ "Client", 3, 8, false, "", "", 56⟩ := by rw [← Array.getElem?_toList, hfs]; rfl
  have g6 : (Try.prog.fieldsOf 83)[6]? = some ⟨ "Num", 24, 9, false, "", "", 64⟩ := by rw [← Array.getElem?_toList, hfs]; rfl
  have hn : xs.length = 7 := by rw [hlen, ← Array.length_toList, hfs]; rfl
  match xs, hn with
  | [y0, y1, y2, y3, y4, y5, y6], _ =>
    have f0 : DataW.trod enc Try.prog W 0 (fun _ => true) true k 45 ((cs.drop 0).take (Try.prog.cellsOf 45)) = some y0 := hf 0 _ g0
    rw [Try.cells45] at f0
    obtain ⟨m0, e0, _, w0⟩ := DataW.trod_int Try.underlying45 f0
    have f1 : DataW.trod enc Try.prog W 0 (fun _ => true) true k 32 ((cs.drop 1).take (Try.prog.cellsOf 32)) = some y1 := hf 1 _ g1
    rw [Try.cells32] at f1
    obtain ⟨d1, n1, e1⟩ := open_row Try.underlying32 Try.underlying5 Try.cells5 Try.cells32 f1
    have f2 : DataW.trod enc Try.prog W 0 (fun _ => true) true k 24 ((cs.drop 5).take (Try.prog.cellsOf 24)) = some y2 := hf 2 _ g2
    rw [Try.cells24] at f2
    obtain ⟨m2, e2, _, w2⟩ := DataW.trod_int Try.underlying24 f2
    have f3 : DataW.trod enc Try.prog W 0 (fun _ => true) true k 3 ((cs.drop 6).take (Try.prog.cellsOf 3)) = some y3 := hf 3 _ g3
    rw [Try.cells3] at f3
    obtain ⟨m3, e3, _, w3⟩ := DataW.trod_int Try.underlying3 f3
    have f4 : DataW.trod enc Try.prog W 0 (fun _ => true) true k 25 ((cs.drop 7).take (Try.prog.cellsOf 25)) = some y4 := hf 4 _ g4
    rw [Try.cells25] at f4
    obtain ⟨p4, e4, in4, ln4⟩ := open_bytes f4
    have f5 : DataW.trod enc Try.prog W 0 (fun _ => true) true k 3 ((cs.drop 8).take (Try.prog.cellsOf 3)) = some y5 := hf 5 _ g5
    rw [Try.cells3] at f5
    obtain ⟨m5, e5, _, w5⟩ := DataW.trod_int Try.underlying3 f5
    have f6 : DataW.trod enc Try.prog W 0 (fun _ => true) true k 24 ((cs.drop 9).take (Try.prog.cellsOf 24)) = some y6 := hf 6 _ g6
    rw [Try.cells24] at f6
    obtain ⟨m6, e6, _, w6⟩ := DataW.trod_int Try.underlying24 f6
    have hcs : cs = (cs.drop 0).take 1 ++ ((cs.drop 1).take 4 ++ ((cs.drop 5).take 1 ++ ((cs.drop 6).take 1 ++ ((cs.drop 7).take 1 ++ ((cs.drop 8).take 1 ++ ((cs.drop 9).take 1)))))) := by
      have s0 : cs.drop 0 = (cs.drop 0).take 1 ++ cs.drop 1 := (seg_drop cs 0 1)
      have s1 : cs.drop 1 = (cs.drop 1).take 4 ++ cs.drop 5 := (seg_drop cs 1 4)
      have s2 : cs.drop 5 = (cs.drop 5).take 1 ++ cs.drop 6 := (seg_drop cs 5 1)
      have s3 : cs.drop 6 = (cs.drop 6).take 1 ++ cs.drop 7 := (seg_drop cs 6 1)
      have s4 : cs.drop 7 = (cs.drop 7).take 1 ++ cs.drop 8 := (seg_drop cs 7 1)
      have s5 : cs.drop 8 = (cs.drop 8).take 1 ++ cs.drop 9 := (seg_drop cs 8 1)
      have s6 : cs.drop 9 = (cs.drop 9).take 1 := (List.take_of_length_le (by rw [List.length_drop, hl]; exact Nat.le_refl _)).symm
      conv => lhs; rw [show cs = cs.drop 0 from rfl]
      conv => lhs; rw [s0]
      conv => lhs; rhs; rw [s1]
      conv => lhs; rhs; rhs; rw [s2]
      conv => lhs; rhs; rhs; rhs; rw [s3]
      conv => lhs; rhs; rhs; rhs; rhs; rw [s4]
      conv => lhs; rhs; rhs; rhs; rhs; rhs; rw [s5]
      conv => lhs; rhs; rhs; rhs; rhs; rhs; rhs; rw [s6]
    rw [e0, e1, e2, e3, e4, e5, e6] at hcs
    exact ⟨⟨m0, d1, m2, m3, p4, m5, m6⟩, hcs.trans (by simp [Rt.C]), ⟨⟨(wf_i64 w0).1, (wf_i64 w0).2, n1, (wf_u64 w2).1, (wf_u64 w2).2, (wf_i64 w3).1, (wf_i64 w3).2, (wf_i64 w5).1, (wf_i64 w5).2, (wf_u64 w6).1, (wf_u64 w6).2⟩, in4⟩⟩
def RpRow (W : World) (v : Value) : Prop := ∃ (ad : Option Addr) (cap : Nat) (l : List Rt), v = .slice ad l.length cap ∧ Rp.In ad cap l W ∧ l.length ≤ 9223372036854775807
set_option maxRecDepth 100000 in
theorem open_rts {H : Type} (enc : TypeId × Value → H) (W : World) (v : Value) {d : DataW H} {ps : List MemPlace} (base : Nat) (hval : Value.okWide Try.prog W .any base 98 v) (h : DataW.Trod enc Try.prog W 0 (fun _ => true) true 98 v d ps) : RpRow W v := by
  obtain ⟨a1, len1, cap1, rfl⟩ := okWide_slice Try.underlying98 hval
  obtain ⟨fuel, hf⟩ := h
  rcases open_slice Try.underlying98 hf with ⟨hcs, hx⟩ | ⟨a, len, cap, m, n, D, Pl, hcs, hb, hl, hm, hmm, hx, hi⟩
  · simp [Value.cells] at hcs
    obtain ⟨rfl, rfl, rfl⟩ := hcs
    exact ⟨none, 0, [], rfl, ⟨Nat.le_refl _, fun _ => rfl, fun i x hx => by simp at hx, fun h => absurd h (Nat.lt_irrefl 0)⟩, Nat.zero_le _⟩
  simp [Value.cells] at hcs
  obtain ⟨rfl, rfl, rfl⟩ := hcs
  simp only [if_true] at hmm
  have key : ∀ i : Fin len1, ∃ z : Rt, RI W z ∧ ∀ (j : Nat) (u : Value), z.C[j]? = some u → W.cell? ((a.add (i.1 * 10)).add j) = some u := fun i => by
    obtain ⟨cs', hc, ht'⟩ := hi i.1 (by have := i.2; omega)
    rw [Try.cells83] at hc
    obtain ⟨_, hcl, hat⟩ := World.cells?_some hc
    obtain ⟨z, z1, z3⟩ := rt_cells hcl ht'
    refine ⟨z, z3, fun j u hu => ?_⟩
    have hj : j < 10 := by rw [← z1] at hu; have := (List.getElem?_eq_some_iff.1 hu).1; omega
    rw [hat j hj, z1]; exact hu
  obtain ⟨f, hff⟩ := Classical.axiomOfChoice key
  have hget : ∀ (i : Nat) (x : Rt), (List.ofFn f)[i]? = some x → ∃ hi : i < len1, x = f ⟨i, hi⟩ := fun i x hx => by
    have hlt : i < len1 := by have := (List.getElem?_eq_some_iff.1 hx).1; simpa using this
    refine ⟨hlt, ?_⟩
    rw [List.getElem?_ofFn, dif_pos hlt] at hx
    exact (Option.some.inj hx).symm
  refine ⟨some a, cap1, List.ofFn f, by simp, ⟨by simpa using hl, (fun h => by cases h), fun i x hx => ?_, fun h0 => ?_⟩, by have := Nat.le_trans hl hm; unfold maxLen at this; simpa using this⟩
  · obtain ⟨h1, rfl⟩ := hget i x hx
    exact (hff ⟨i, h1⟩).1
  have hpos : 0 < len1 := by rwa [List.length_ofFn] at h0
  obtain ⟨ab, ao, spot⟩ := a
  have hc0 := (hff ⟨0, hpos⟩).2 0 _ rfl
  have hspot : spot = none := by simpa [Addr.add] using World.cell?_spot hc0
  subst hspot
  refine ⟨ab, ao, rfl, by have := World.block_lt_of_cell? W _ hc0; simpa [Addr.add] using this, fun i x hx => ?_⟩
  obtain ⟨h1, rfl⟩ := hget i x hx
  intro j u hu
  have z1 := (hff ⟨i, h1⟩).2 j u hu
  rw [Addr.add_lit, Addr.add_lit] at z1
  exact z1
end Go.Proofs.Ytmjfnpmnhehnkaa
