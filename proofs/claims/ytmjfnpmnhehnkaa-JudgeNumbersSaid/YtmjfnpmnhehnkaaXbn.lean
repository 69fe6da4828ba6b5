/- Js, Jv -/
import Derived.Test.YtmjfnpmnhehnkaaXbm
import Derived.Deep.CutBlock
import Derived.Laws.Closers25b
namespace Go.Proofs.Ytmjfnpmnhehnkaa
open Go.RowKit
theorem PN.sn {w : World} {B : Nat} {p : Pt} (h : PN w B p) : SN9 w p := ⟨h.1, fun a e => by obtain ⟨_, cs, hc⟩ := h.2 a e; exact ⟨cs, _, hc⟩⟩
theorem SN9.kt {S : List Nat} {B : Nat} {w w' : World} {p : Pt} (h : SN9 w p) (k : Kt S B w w') (hs : 5 ∉ S) : SN9 w' p := by
 refine ⟨⟨h.1.cap, h.1.nil, fun h0 => ?_⟩, fun a e => by obtain ⟨cs, fr, hc⟩ := h.2 a e; exact ⟨cs, fr, k.typ _ _ _ _ hc hs⟩⟩
 obtain ⟨a, o, e, hB, hc⟩ := h.1.read h0
 obtain ⟨cs, fr, hb⟩ := h.2 _ e
 refine ⟨a, o, e, Nat.lt_of_lt_of_le hB k.size, fun i hi => ?_⟩
 rw [← hc i hi]
 have h2 := k.typ _ _ _ _ hb hs
 simp only [World.cell?, h2, hb]
structure Dw where
 k : Kq
 turn : Int
def Dw.C (x : Dw) : List Value := x.k.C ++ [.int .i64 x.turn]
def Dw.V (x : Dw) : Value := .agg x.C.toArray
structure Dw.In (x : Dw) (w : World) : Prop where
 k : x.k.In w
 t : i64 x.turn
theorem Dw.In.ext {x : Dw} {w w' : World} (h : x.In w) (k : Ex w w') : x.In w' := ⟨h.k.ext k, h.t⟩
structure Dwp.In (ad : Option Addr) (cap : Nat) (l : List Dw) (w : World) : Prop where
 len : l.length ≤ cap
 nil : ad = none → cap = 0
 ins : ∀ (i : Nat) (x : Dw), l[i]? = some x → x.In w
 read : 0 < l.length → ∃ a o, ad = some ⟨a, o, none⟩ ∧ a < w.heap.size ∧ ∀ (i : Nat) (x : Dw), l[i]? = some x → w.rangeAt a (o + i * 9) x.C
theorem Dwp.In.ext {ad : Option Addr} {cap : Nat} {l : List Dw} {w w' : World} (h : Dwp.In ad cap l w) (k : Ex w w') : Dwp.In ad cap l w' :=
 ⟨h.len, h.nil, fun i x hx => (h.ins i x hx).ext k, fun h0 => by
  obtain ⟨a, o, e, hB, hc⟩ := h.read h0
  exact ⟨a, o, e, Nat.lt_of_lt_of_le hB k.sz, fun i x hx j v hv => (Below.cell (p := ⟨a, o + i * 9 + j, none⟩) k hB).trans (hc i x hx j v hv)⟩⟩
theorem ld_dwk {o : Oper} {a : Act} {w : World} {K : Act → World → Prop} {Q : Exit → Act → World → Prop} (y : Operand) (g off : Nat) (x : Dw) (ho : o.op = .load 76 y) (ha : a.eval y = .pointer (some ⟨g, off, none⟩)) (h : w.rangeAt g off x.C) (hk : K (a.put o.dst x.k.V) w) : o.wp Try.prog a w K Q := by
 obtain ⟨dd, hd⟩ : ∃ d, Try.prog.underlying 76 = some d ∧ d.isRow = true := ⟨_, Try.underlying76, rfl⟩
 exact wp_load_mid 76 y ho g off ha x.k.C dd (fun j u hu => h j u (by unfold Dw.C; rw [List.getElem?_append_left (List.getElem?_eq_some_iff.1 hu).1]; exact hu)) hd.1 hd.2 (by rw [Try.sizeKq]; rfl) hk
structure DN (w : World) (x : Dt) : Prop where
 q : x.q.Ok
 r : x.r.Ok
 qs : SN9 w x.q.sec
 rs : SN9 w x.r.sec
theorem DN.ext {w w' : World} {x : Dt} (h : DN w x) (k : Ex w w') : DN w' x := ⟨h.q, h.r, h.qs.ext k, h.rs.ext k⟩
theorem DN.kt {S : List Nat} {B : Nat} {w w' : World} {x : Dt} (h : DN w x) (k : Kt S B w w') (hs : 5 ∉ S) : DN w' x := ⟨h.q, h.r, h.qs.kt k hs, h.rs.kt k hs⟩
theorem DN.di {w : World} {x : Dt} (h : DN w x) : DI9 w x := ⟨⟨h.q, h.qs.1⟩, ⟨h.r, h.rs.1⟩⟩
theorem Dt.C_one (x : Dt) : ∀ u ∈ x.C, u.oneCell' = true := by
 have := x.one
 rw [List.all_toArray] at this
 exact List.all_eq_true.1 this
structure DRow (w : World) (B : Nat) (v : Value) (xs : List Dt) : Prop where
 row : w.ownsRow B 149 68 v xs.length (xs.flatMap Dt.C)
 ins : ∀ (i : Nat) (x : Dt), xs[i]? = some x → DN w x
theorem DRow.nil (w : World) (B : Nat) : DRow w B (.slice none 0 0) [] := ⟨World.ownsRow_nil _ _ _ _, fun i x hx => by simp at hx⟩
theorem DRow.ext {w w' : World} {B : Nat} {v : Value} {xs : List Dt} (h : DRow w B v xs) (k : Ex w w') : DRow w' B v xs := ⟨k.row h.row, fun i x hx => (h.ins i x hx).ext k⟩
theorem DRow.kt {S : List Nat} {B B' : Nat} {w w' : World} {v : Value} {xs : List Dt} (h : DRow w B v xs) (k : Kt S B' w w') (h1 : 149 ∉ S) (h2 : 5 ∉ S) : DRow w' B v xs := ⟨k.row h.row h1, fun i x hx => (h.ins i x hx).kt k h2⟩
theorem DRow.inn {w : World} {B : Nat} {v : Value} {xs : List Dt} (h : DRow w B v xs) : ∃ ad cap, v = .slice ad xs.length cap ∧ Dp.In ad cap xs w := by
 obtain ⟨ad, cap, e, hnil, hc, _, hr⟩ := own_rd h.row
 have H : ∀ x ∈ xs, x.C.length = 68 := fun x hx => by
  obtain ⟨i, hi, e⟩ := List.getElem_of_mem hx
  have h1 := h.ins i x (by rw [List.getElem?_eq_getElem hi, e])
  exact Dt.len h1.q h1.r
 exact ⟨ad, cap, e, hc, hnil, fun i x hx => (h.ins i x hx).di, gflat_back Dt.C 68 H hr⟩
theorem DRow.app {w w2 : World} {B : Nat} {v v' : Value} {xs : List Dt} {z : Dt} (h : DRow w B v xs) (k : Kt [149] B w w2) (hr : w2.ownsRow B 149 68 v' (xs.length + 1) (xs.flatMap Dt.C ++ z.C)) (hz : DN w z) : DRow w2 B v' (xs ++ [z]) :=
 ⟨by rw [List.length_append, List.flatMap_append]; simpa using hr, fun i x hx => by
  rcases List.mem_append.1 (List.mem_of_getElem? hx) with h1 | h1
  ·obtain ⟨j, hj, e⟩ := List.getElem_of_mem h1
   exact (h.ins j x (by rw [List.getElem?_eq_getElem hj, e])).kt k (by decide)
  ·rw [List.mem_singleton.1 h1]; exact hz.kt k (by decide)⟩
theorem PStep.sec64 {xs xs' : List Vt} {q : Qc} {y : Rc} (h : PStep xs q y xs') : y.sec.length ≤ 64 := by
 rcases h with ⟨_, rfl, _⟩ | ⟨hq, x, k, hg, hk, h⟩
 ·decide
 have hd : (doC x.ct q).2.1.sec.length ≤ 64 := by
  have hkd := do_kind hq hk
  generalize doC x.ct q = d at hkd ⊢
  obtain ⟨d1, d2, d3⟩ := d
  simp only at hkd ⊢
  cases hkd with
  | told _ hv _ _ => exact (Vc.right_sec hv).1
  | _ => exact Nat.zero_le _
 rcases h with ⟨_, e, _⟩ | ⟨_, _, _, e, _⟩ | ⟨_, e, _⟩
 ·rw [e]; exact hd
 ·rw [e]; exact Nat.zero_le _
 rw [e]; exact hd
set_option maxRecDepth 100000 in
theorem built_dt (m : Int) (q : Qt) (r : Rt) (hq : q.Ok) (hr : r.Ok) : Try.prog.built 149 [(0, .int .i64 m), (1, q.V), (2, r.V)] = some (Dt.mk m q r).C.toArray := by
 obtain ⟨op, id, pin, sec, lim, own, key, client, num⟩ := q
 obtain ⟨why, id2, gen, left, sec2, client2, num2⟩ := r
 obtain ⟨id0, id1, id2, id3, rfl⟩ := len4 hq.idN
 obtain ⟨_, _, _, _, _, _, _, _, _, _, _, _, _, _, _, _, rfl⟩ := len16 hq.pinN
 obtain ⟨_, _, _, _, _, _, _, _, _, _, _, _, _, _, _, _, rfl⟩ := len16 hq.ownN
 obtain ⟨_, _, _, _, _, _, _, _, _, _, _, _, _, _, _, _, rfl⟩ := len16 hq.keyN
 obtain ⟨ie0, ie1, ie2, ie3, rfl⟩ := len4 hr.idN
 kernel_rfl
theorem Try.infoU8s : (Try.prog.info? 5).map (fun i => (i.zero, i.size, i.bytes)) = some (some (.int .u8 0), 1, 1) := by kernel_rfl
theorem wp_xapp {o : Oper} {a : Act} {w : World} {K : Act → World → Prop} {Q : Exit → Act → World → Prop} (s x : Operand) (g : Nat) (fr : Nat × Nat) (p : Pt) (hop : o.op = .call { callee := .builtin .append, args := #[s, x], argTypes := #[25, 25] }) (hs : a.eval s = .slice (some ⟨g, 0, none⟩) 1 1) (hb : w.heap[g]? = some (.cells #[.int .u8 120] 5 fr)) (hx : a.eval x = p.V) (hp : p.In w w.heap.size) (hl : p.l.length ≤ 64)
  (h : ∀ (z : Pt) w', SN9 w' z → Ex w w' → K (a.put o.dst z.V) w') : o.wp Try.prog a w K Q := by
 obtain ⟨ad, cap, l⟩ := p
 by_cases h0 : 0 < l.length
 ·obtain ⟨b, oo, e, hB, hc⟩ := hp.read h0
  simp only at e
  subst e
  have hrs : Rd w (some ⟨g, 0, none⟩) 1 1 [.int .u8 120] := ⟨rfl, fun _ => ⟨g, 0, rfl, blk_lt hb, fun j u hu => by
   have hj : j < 1 := (List.getElem?_eq_some_iff.1 hu).1
   obtain rfl : j = 0 := by omega
   cases hu
   simp only [World.cell?, hb]
   rfl⟩⟩
  have hrx : Rd w (some ⟨b, oo, none⟩) l.length 1 (Lib.byteCells l) := ⟨by rw [byteCells_len, Nat.mul_one], fun _ => ⟨b, oo, rfl, hB, fun j u hu => by
   have hj : j < l.length := by have := (List.getElem?_eq_some_iff.1 hu).1; rwa [byteCells_len] at this
   rw [hc j hj, ← hu, byteCells_get l j hj]
   simp [hj]⟩⟩
  refine wp_full s x 25 5 (.int .u8 0) 1 1 hop Try.underlying25 Try.infoU8s rfl (by decide) 0 (Nat.zero_le _) (some ⟨g, 0, none⟩) 1 [.int .u8 120] hs hrs (fun h => by cases h) ⟨b, oo, none⟩ l.length cap (Lib.byteCells l) hx hrx h0 (fun u hu => byteCells_one hu) (by simp only at hl; omega) (by simp only at hl; omega) (fun v' w' r1 r2 => ?_)
  have ow : ownU w' 0 v' (120 :: l) := by
   unfold ownU
   have e1 : (120 :: l : List UInt8).length = 1 + l.length := by rw [List.length_cons, Nat.add_comm]
   rw [e1]; exact r1
  obtain ⟨z, rfl, _, hz⟩ := own_pn ow
  exact h z w' hz.sn r2
 ·obtain ⟨i0, hi0, hz0, hz1, hz2⟩ := info_parts Try.infoU8s
  have hl0 : l.length = 0 := by omega
  have hx2 : a.eval x = .slice ad 0 cap := by rw [hx]; unfold Pt.V; simp only [hl0]
  have hsrc : Src Try.prog i0.size 25 (.slice ad 0 cap) 0 [] w := by
   cases ad with
   | none => exact Src.ofNil w Try.underlying25 cap
   | some A => exact Src.ofSlice w Try.underlying25 A 0 cap [] (by simp) (fun j u h => by cases h) (fun u h => by cases h)
  have hrun := run_append_nothing (P := Try.prog) (ty := o.type) w 25 25 5 i0 Try.underlying25 hi0 (some ⟨g, 0, none⟩) 1 1 (Nat.le_refl _) _ hsrc
  have hsn : SN9 w ⟨some ⟨g, 0, none⟩, 1, [120]⟩ := ⟨⟨Nat.le_refl _, (fun h => by cases h), fun _ => ⟨g, 0, rfl, blk_lt hb, fun i hi => by
   have hi : i < 1 := hi
   obtain rfl : i = 0 := by omega
   simp only [World.cell?, hb]
   rfl⟩⟩, fun a e => by cases e; exact ⟨_, _, hb⟩⟩
  unfold Oper.wp
  simp [execOp, hop, resolve, invoke, builtin, hs, hx2, hrun, Result.andThen]
  exact h _ w hsn (Ex.refl w)
theorem w64lo (n : Int) : -9223372036854775808 ≤ wrap64 n := by unfold wrap64; omega
theorem w64hi (n : Int) : wrap64 n ≤ 9223372036854775807 := by unfold wrap64; omega
theorem wrapu_lo (n : Int) : 0 ≤ IntKind.u64.wrap n := by
 unfold IntKind.wrap
 simp only [IntKind.bits, IntKind.signed]
 simp
 omega
theorem wrapu_hi (n : Int) : IntKind.u64.wrap n < 18446744073709551616 := by
 unfold IntKind.wrap
 simp only [IntKind.bits, IntKind.signed]
 simp
 omega
set_option maxHeartbeats 8000000 in
set_option maxRecDepth 100000 in
theorem made_any (ad : Option Addr) (cap : Nat) (l : List Dw) (w : World) (hL : l.length ≤ 9223372036854775807) (hin : Dwp.In ad cap l w) : Calls Try.prog 44 #[.slice ad l.length cap, .int .i64 40] w fun e w' => ∃ v ds, e = .returned v ∧ DRow w' w.heap.size v ds ∧ ds.length ≤ 40 ∧ Ex w w' := by
 have hcv := fun (w : World) (C : Array Value) (n c : Nat) => Lib.run_convert_bytes_const (P := Try.prog) w 25 5 C n c Try.underlying25 Try.underlying5
 obtain ⟨n, hn⟩ : ∃ n, n = l.length := ⟨_, rfl⟩
 rw [show (Value.slice ad l.length cap) = .slice ad n cap by rw [hn]]
 rw [← hn] at hL
 have HN := Hi hn
 have HIN := Hi hin
 clear hn hin
 go_enter Try.func44, Try.ntmps44
 go_wp2_with (first | ((with_reducible refine so2 [76, 4000+149] ?_ ?_); (focus rfl)) | (with_reducible refine stop_app ?_) | (with_reducible refine stop_bs (t := 96) ?_))
 refine at9 (by go_simp) fun K0 hK => wp_build _ _ rfl _ built_pl (hK _ _ ?_)
 clear hK
 go_wp2_with (first | ((with_reducible refine so2 [76, 4000+149] ?_ ?_); (focus rfl)) | (with_reducible refine stop_app ?_) | (with_reducible refine stop_bs (t := 96) ?_))
 have P0 : Hid (K.PB w (w.alloc (.cells #[.slice none 0 0] 147)) w.heap.size (.slice none 0 0) []) := Hi (K.PB.start (Nat.le_refl _) (Below.size (Ex.alloc w _)) (Bk.new rfl _ _))
 have X0 : Hid (Ex w (w.alloc (.cells #[.slice none 0 0] 147))) := Hi (Ex.alloc _ _)
 generalize hw1 : (w.alloc (.cells #[.slice none 0 0] 147)) = w1 at *
 obtain ⟨P, hP⟩ : ∃ P, P = w.heap.size := ⟨_, rfl⟩
 rw [← hP] at P0 ⊢
 clear hw1 hP
 go_loopw [6, 7] (fun v i wr => ∃ (k : Nat) (rv : Value) (xs : List Vt) (ds : List Dt), k ≤ n ∧ k ≤ 40 ∧ i = .int .i64 k ∧ xs.length ≤ k ∧ Hid (K.PB w wr P rv xs) ∧ Hid (∀ x ∈ xs, x.ct.right = true) ∧ Hid (DRow wr w.heap.size v ds ∧ ds.length = k) ∧ Hid (Ex w wr)) (fun _ i _ => 40 - (intOf i).toNat)
 case atStart => exact ⟨0, .slice none 0 0, [], [], by omega, by omega, rfl, Nat.le_refl _, P0, Hi (fun x hx => by simp at hx), Hi ⟨DRow.nil _ _, rfl⟩, X0⟩
 clear P0 X0
 obtain ⟨k, rv, xs, ds, hk, hk40, rfl, hxl, HP, HR, DR, BX⟩ := hrel
 by_cases hlt : k < n
 rotate_left
 ·have q1 : ¬ (k : Int) < (n : Int) := by omega
  go_wp2_with fail
  go_ret
  exact ⟨_, rfl, ds, DR.out.1, by have := DR.out.2; omega, BX.out⟩
 have q1 : (k : Int) < (n : Int) := by omega
 by_cases hlt2 : k < 40
 rotate_left
 ·have q2 : ¬ (k : Int) < 40 := by omega
  go_wp2_with fail
  go_ret
  exact ⟨_, rfl, ds, DR.out.1, by have := DR.out.2; omega, BX.out⟩
 have q2 : (k : Int) < 40 := by omega
 have q0 : (0 : Int) ≤ (k : Int) := by omega
 obtain ⟨ab, ofs, rfl, hab, hcc⟩ := HIN.out.read (by rw [← HN.out]; omega)
 obtain ⟨x, hx⟩ : ∃ x, l[k]? = some x := ⟨_, List.getElem?_eq_getElem (by rw [← HN.out]; exact hlt)⟩
 have XI := Hi ((HIN.out.ins k x hx).ext BX.out)
 have XRG : Hid (∀ wq, Ex w wq → wq.rangeAt ab (ofs + k * 9) x.C) := Hi (fun wq e j u hu => (Below.cell (p := ⟨ab, ofs + k * 9 + j, none⟩) e hab).trans (hcc k x hx j u hu))
 clear hcc hx hab
 go_wp2_with (first | ((with_reducible refine so2 [76, 4000+149] ?_ ?_); (focus rfl)) | (with_reducible refine stop_app ?_) | (with_reducible refine stop_bs (t := 96) ?_))
 refine at9 (by go_simp) fun K0 hK => ld_dwk _ ab (ofs + k * 9) x rfl rfl (XRG.out _ BX.out) (hK _ _ ?_)
 clear hK
 go_wp2_with (first | ((with_reducible refine so2 [76, 4000+149] ?_ ?_); (focus rfl)) | (with_reducible refine stop_app ?_) | (with_reducible refine stop_bs (t := 96) ?_))
 refine (req2_any x.k wr XI.out.k).mono ?_
 rintro e w4 ⟨q, rfl, hqi, _, xx, hqs⟩
 have QOK := Hi hqi.ok
 have QS := Hi hqs
 replace HP := Hi (HP.out.ext xx)
 replace DR := Hi (And.intro (DR.out.1.ext xx) DR.out.2)
 replace BX := Hi (Ex.trans BX.out xx)
 clear hqi hqs xx
 go_wp2_with (first | ((with_reducible refine so2 [76, 4000+149] ?_ ?_); (focus rfl)) | (with_reducible refine stop_app ?_) | (with_reducible refine stop_bs (t := 96) ?_))
 refine at9 (by go_simp) fun K0 hK => st_q _ _ w4.heap.size q rfl rfl rfl QOK.out (Bk.new rfl _ _) (by rfl) (fun w5 hd ho => hK _ _ ?_)
 clear hK
 have x5 : Ex w4 w5 := ho.below w4.heap.size (Nat.le_refl _) w4 (Ex.alloc w4 _)
 have HQ := Hi hd
 replace QS := Hi (QS.out.ext x5)
 obtain ⟨gq, hg⟩ : ∃ g, g = w4.heap.size := ⟨_, rfl⟩
 rw [← hg] at HQ ⊢
 replace HP := Hi (HP.out.ext x5)
 replace DR := Hi (And.intro (DR.out.1.ext x5) DR.out.2)
 replace BX := Hi (Ex.trans BX.out x5)
 clear hd ho x5 hg QOK
 go_wp2_with (first | ((with_reducible refine so2 [76, 4000+149] ?_ ?_); (focus rfl)) | (with_reducible refine stop_app ?_) | (with_reducible refine stop_bs (t := 96) ?_))
 refine at9 (by go_simp) fun K0 hK => ld_q _ gq q rfl rfl HQ.out (hK _ _ ?_)
 clear hK
 go_wp2_with (first | ((with_reducible refine so2 [76, 4000+149] ?_ ?_); (focus rfl)) | (with_reducible refine stop_app ?_) | (with_reducible refine stop_bs (t := 96) ?_))
 refine (K.pdo_any w P rv xs q w5 HP.out HR.out (by omega) ⟨HQ.out.1, QS.out.1⟩ (Or.inr QS.out)).mono ?_
 rintro e w6 ⟨y, rv2, xs2, rfl, yok, ypn, hpb, hst, hmd, _⟩
 have hkt : Kt [147] w.heap.size w5 w6 := Kt.md hmd HP.out.lo HP.out.blk (List.mem_singleton.2 rfl)
 have YOK := Hi yok
 have YPN := Hi ypn
 have HP2 := Hi hpb
 have HR2 := Hi (pstep_right HR.out hst)
 have hl2 := hst.len9
 have Y64 := Hi hst.sec64
 have HQ2 : Hid (QB w6 gq q) := Hi ⟨HQ.out.1, hkt.bk HQ.out.2 (by decide)⟩
 have QS2 := Hi (QS.out.sn.kt hkt (by decide))
 replace DR := Hi (And.intro (DR.out.1.kt hkt (by decide) (by decide)) DR.out.2)
 replace BX : Hid (Ex w w6) := Hi (Below.trans BX.out hkt.below)
 clear yok ypn hpb hst hmd hkt HP HR HQ QS
 go_wp2_with (first | ((with_reducible refine so2 [76, 4000+149] ?_ ?_); (focus rfl)) | (with_reducible refine stop_app ?_) | (with_reducible refine stop_bs (t := 96) ?_))
 refine at9 (by go_simp) fun K0 hK => st_r _ _ w6.heap.size y rfl rfl rfl YOK.out (Bk.new rfl _ _) (by rfl) (fun w7 hd ho => hK _ _ ?_)
 clear hK
 have x3 : Ex w6 w7 := ho.below w6.heap.size (Nat.le_refl _) w6 (Ex.alloc w6 _)
 have hgl : w.heap.size ≤ w6.heap.size := Below.size BX.out
 obtain ⟨g, hg⟩ : ∃ g, g = w6.heap.size := ⟨_, rfl⟩
 rw [← hg] at hd hgl ⊢
 have HD := Hi hd
 have YS := Hi (YPN.out.sn.ext x3)
 replace HP2 := Hi (HP2.out.ext x3)
 replace HQ2 := Hi (HQ2.out.ext x3)
 replace QS2 := Hi (QS2.out.ext x3)
 replace DR := Hi (And.intro (DR.out.1.ext x3) DR.out.2)
 replace BX := Hi (Ex.trans BX.out x3)
 clear hd ho hg x3 YPN
 obtain ⟨t, ht⟩ : ∃ t, t = x.turn := ⟨_, rfl⟩
 have c8 : w7.cell? ⟨ab, ofs + k * 9 + 8, none⟩ = some (.int .i64 t) := by rw [ht]; exact XRG.out _ BX.out 8 _ rfl
 clear ht XRG XI
 go_upto_block 2 with (first | ((with_reducible refine so2 [76, 4000+149] ?_ ?_); (focus rfl)) | (with_reducible refine stop_app ?_) | (with_reducible refine stop_bs (t := 96) ?_))
 clear c8
 go_cut [] (fun wd => ∃ z : Rt, Hid (RB wd g z) ∧ Hid (SN9 wd z.sec) ∧ Hid (Kt [83] w.heap.size w7 wd))
 case first =>
  obtain ⟨r0, r5, r6, r7, r8, r9⟩ := HD.out.cells
  unfold Pt.V at r7
  by_cases t1 : t = 1
  ·subst t1
   go_wp2_with ((with_reducible refine so4 [1000 + 3] ?_ ?_); (focus rfl))
   refine at9 (by go_simp) fun K0 hK => st_rleft (by kernel_rfl) _ _ g y _ rfl rfl rfl (by first | exact bits_lo_i64 _ _ _ | omega) (by first | exact bits_hi_i64 _ _ _ | omega) HD.out (fun w8 hd ho => hK _ _ ?_)
   clear hK
   have HB := Hi hd
   have hkt : Kt [83] w.heap.size w7 w8 := Kt.md ho.md hgl HD.out.2 (List.mem_singleton.2 rfl)
   have HS := Hi (YS.out.kt hkt (by decide))
   have HKT := Hi hkt
   clear hd ho hkt r0 r5 r6 r7 r8 r9
   go_wp2_with fail
   go_meet
   case rel => exact ⟨_, HB, HS, HKT⟩
  by_cases t2 : t = 2
  ·subst t2
   go_wp2_with ((with_reducible refine so4 [1000 + 45] ?_ ?_); (focus rfl))
   refine at9 (by go_simp) fun K0 hK => st_rwhy (by kernel_rfl) _ _ g y _ rfl rfl rfl (by first | exact w64lo _ | omega) (by first | exact w64hi _ | omega) HD.out (fun w8 hd ho => hK _ _ ?_)
   clear hK
   have HB := Hi hd
   have hkt : Kt [83] w.heap.size w7 w8 := Kt.md ho.md hgl HD.out.2 (List.mem_singleton.2 rfl)
   have HS := Hi (YS.out.kt hkt (by decide))
   have HKT := Hi hkt
   clear hd ho hkt r0 r5 r6 r7 r8 r9
   go_wp2_with fail
   go_meet
   case rel => exact ⟨_, HB, HS, HKT⟩
  by_cases t3 : t = 3
  ·subst t3
   go_wp2_with (first | (with_reducible refine stop_load (t := 25) ?_) | (with_reducible refine stop_app ?_) | ((with_reducible refine so4 [1000 + 25] ?_ ?_); (focus rfl)))
   (with_reducible refine ⟨?_⟩)
   change wpList _ _ _ _ _ (w7.alloc (.cells #[.int .u8 120] 5 (1, 2)))
   have xa : Ex w7 (w7.alloc (.cells #[.int .u8 120] 5 (1, 2))) := Ex.alloc _ _
   have hb : (w7.alloc (.cells #[.int .u8 120] 5 (1, 2))).heap[w7.heap.size]? = some (.cells #[.int .u8 120] 5 (1, 2)) := by unfold World.alloc; exact Array.getElem?_push_size
   generalize hw9 : (w7.alloc (.cells #[.int .u8 120] 5 (1, 2))) = w8 at *
   obtain ⟨gs, hgs⟩ : ∃ g, g = w7.heap.size := ⟨_, rfl⟩
   rw [← hgs] at hb ⊢
   have HD8 := Hi (HD.out.ext xa)
   have YS8 := Hi (YS.out.ext xa)
   have HB8 := Hi hb
   have XA := Hi xa
   clear hw9 hgs hb xa r0 r5 r6 r7 r8 r9
   obtain ⟨r0, r5, r6, r7, r8, r9⟩ := HD8.out.cells
   unfold Pt.V at r7
   go_wp2_with (first | (with_reducible refine stop_app ?_) | ((with_reducible refine so4 [1000 + 25] ?_ ?_); (focus rfl)))
   refine at9 (by go_simp) fun K0 hK => wp_xapp _ _ gs (1, 2) y.sec rfl rfl HB8.out rfl YS8.out.1 Y64.out (fun z w9 hz xz => hK _ _ ?_)
   clear hK
   have HZ := Hi hz
   have HD9 := Hi (HD8.out.ext xz)
   have XZ := Hi (Ex.trans XA.out xz)
   clear hz xz r0 r5 r6 r7 r8 r9 HB8 YS8 HD8 XA
   go_wp2_with (first | (with_reducible refine stop_app ?_) | ((with_reducible refine so4 [1000 + 25] ?_ ?_); (focus rfl)))
   refine at9 (by go_simp) fun K0 hK => st_rsec (by kernel_rfl) _ _ g y z rfl rfl rfl HD9.out (fun w10 hd ho => hK _ _ ?_)
   clear hK
   have HB := Hi hd
   have hkt : Kt [83] w.heap.size w9 w10 := Kt.md ho.md hgl HD9.out.2 (List.mem_singleton.2 rfl)
   have HS := Hi (HZ.out.kt hkt (by decide))
   have HKT : Hid (Kt [83] w.heap.size w7 w10) := Hi ((XZ.out.kt (Below.size BX.out)).trans hkt)
   clear hd ho hkt HZ HD9 XZ
   go_wp2_with fail
   go_meet
   case rel => exact ⟨_, HB, HS, HKT⟩
  by_cases t4 : t = 4
  ·subst t4
   go_wp2_with ((with_reducible refine so4 [1000 + 24] ?_ ?_); (focus rfl))
   refine at9 (by go_simp) fun K0 hK => st_rgen (by kernel_rfl) _ _ g y _ rfl rfl rfl (by first | exact wrapu_lo _ | omega) (by first | exact wrapu_hi _ | omega) HD.out (fun w8 hd ho => hK _ _ ?_)
   clear hK
   have HB := Hi hd
   have hkt : Kt [83] w.heap.size w7 w8 := Kt.md ho.md hgl HD.out.2 (List.mem_singleton.2 rfl)
   have HS := Hi (YS.out.kt hkt (by decide))
   have HKT := Hi hkt
   clear hd ho hkt r0 r5 r6 r7 r8 r9
   go_wp2_with fail
   go_meet
   case rel => exact ⟨_, HB, HS, HKT⟩
  by_cases t5 : t = 5
  ·subst t5
   go_wp2_with ((with_reducible refine so4 [1000 + 24] ?_ ?_); (focus rfl))
   refine at9 (by go_simp) fun K0 hK => st_rnum (by kernel_rfl) _ _ g y _ rfl rfl rfl (by first | exact wrapu_lo _ | omega) (by first | exact wrapu_hi _ | omega) HD.out (fun w8 hd ho => hK _ _ ?_)
   clear hK
   have HB := Hi hd
   have hkt : Kt [83] w.heap.size w7 w8 := Kt.md ho.md hgl HD.out.2 (List.mem_singleton.2 rfl)
   have HS := Hi (YS.out.kt hkt (by decide))
   have HKT := Hi hkt
   clear hd ho hkt r0 r5 r6 r7 r8 r9
   go_wp2_with fail
   go_meet
   case rel => exact ⟨_, HB, HS, HKT⟩
  clear r0 r5 r6 r7 r8 r9
  go_wp2_with fail
  go_meet
  case rel => exact ⟨y, HD, YS, Hi (Kt.refl _ _ _)⟩
 clear HD YS Y64 YOK
 obtain ⟨z, HD, ZS, HKT⟩ := hcut
 replace HP2 := Hi (HP2.out.kt HKT.out (by decide) (by decide) (by decide))
 replace HQ2 : Hid (QB wc gq q) := Hi ⟨HQ2.out.1, HKT.out.bk HQ2.out.2 (by decide)⟩
 replace QS2 := Hi (QS2.out.kt HKT.out (by decide))
 replace DR := Hi (And.intro (DR.out.1.kt HKT.out (by decide) (by decide)) DR.out.2)
 replace BX : Hid (Ex w wc) := Hi (Below.trans BX.out HKT.out.below)
 clear HKT
 go_wp2_with (first | ((with_reducible refine so2 [76, 4000+149] ?_ ?_); (focus rfl)) | (with_reducible refine stop_app ?_) | (with_reducible refine stop_bs (t := 96) ?_))
 refine at9 (by go_simp) fun K0 hK => ld_q _ gq q rfl rfl HQ2.out (hK _ _ ?_)
 clear hK
 go_wp2_with (first | ((with_reducible refine so2 [76, 4000+149] ?_ ?_); (focus rfl)) | (with_reducible refine stop_app ?_) | (with_reducible refine stop_bs (t := 96) ?_))
 refine at9 (by go_simp) fun K0 hK => ld_r _ g z rfl rfl HD.out (hK _ _ ?_)
 clear hK
 go_wp2_with (first | ((with_reducible refine so2 [76, 4000+149] ?_ ?_); (focus rfl)) | (with_reducible refine stop_app ?_) | (with_reducible refine stop_bs (t := 96) ?_))
 refine at9 (by go_simp) fun K0 hK => wp_build _ _ rfl _ (built_dt _ q z HQ2.out.1 HD.out.1) (hK _ _ ?_)
 clear hK
 have DZ : Hid (∀ m, DN wc ⟨m, q, z⟩) := Hi (fun m => ⟨HQ2.out.1, HD.out.1, QS2.out, ZS.out⟩)
 generalize hdz : (k : Int) % 3 = m3
 obtain ⟨D, hD⟩ : ∃ D : Dt, D = ⟨m3, q, z⟩ := ⟨_, rfl⟩
 replace DZ := Hi (DZ.out m3)
 rw [← hD] at DZ ⊢
 clear hD hdz HD ZS HQ2 QS2
 go_wp2_with (first | ((with_reducible refine so2 [76, 4000+149] ?_ ?_); (focus rfl)) | (with_reducible refine stop_app ?_) | (with_reducible refine stop_bs (t := 96) ?_))
 refine at9 (by go_simp) fun K0 hK => wp_bs1 96 149 _ 68 192 _ D.C rfl Try.underlying96 Try.infoDt (by rfl) (by decide) (by decide) (Dt.len DZ.out.q DZ.out.r) rfl (hK _ _ ?_)
 clear hK
 have xa := Ex.alloc wc (.cells D.C.toArray 149)
 have NB := Hi (Bk.new (g := wc.heap.size) (w := wc) rfl 149 D.C.toArray)
 replace HP2 := Hi (HP2.out.ext xa)
 replace DZ := Hi (DZ.out.ext xa)
 replace DR := Hi (And.intro (DR.out.1.ext xa) DR.out.2)
 replace BX := Hi (Ex.trans BX.out xa)
 generalize hw5 : wc.alloc (.cells D.C.toArray 149) = wd at *
 obtain ⟨g2, hg⟩ : ∃ g, g = wc.heap.size := ⟨_, rfl⟩
 rw [← hg] at NB ⊢
 clear hw5 hg xa
 have MR := Hi (Many.rd (n := 1) (sz := 68) ⟨g2, rfl, NB.out⟩ (Dt.len DZ.out.q DZ.out.r))
 go_wp2_with (first | ((with_reducible refine so2 [76, 4000+149] ?_ ?_); (focus rfl)) | (with_reducible refine stop_app ?_) | (with_reducible refine stop_bs (t := 96) ?_))
 obtain ⟨adx, ex, nx, rx⟩ := MR.out
 cases ex
 have RX := Hi rx
 clear rx nx MR
 refine at9 (by go_simp) fun K0 hK => wp_rd _ _ 96 149 _ 68 192 rfl Try.underlying96 Try.infoDt (by rfl) (by decide) w.heap.size ds.length _ _ rfl DR.out.1.row BX.out.sz' _ 1 1 _ rfl RX.out (Nat.le_refl _) (fun h => by cases h) D.C_one (by have := DR.out.2; omega) (by have := DR.out.2; omega) (fun v5 we r1 r2 => hK _ _ ?_)
 clear hK
 replace BX := Hi (show Ex w we from Below.trans (show Below w.heap.size w _ from BX.out) r2.below)
 have HP3 := Hi (HP2.out.kt r2 (by decide) (by decide) (by decide))
 have DR3 : Hid (DRow we w.heap.size v5 (ds ++ [D]) ∧ (ds ++ [D]).length = k + 1) := Hi ⟨DR.out.1.app r2 r1 DZ.out, by rw [List.length_append, DR.out.2]; rfl⟩
 clear r1 r2 HP2 DR DZ NB RX
 go_wp2_with fail
 go_roundw
 case rel => exact ⟨k + 1, rv2, xs2, ds ++ [D], by omega, by omega, by go_num, by omega, HP3, HR2, DR3, BX⟩
 case measure => simp [intOf]; omega
end Go.Proofs.Ytmjfnpmnhehnkaa
namespace Go.Proofs.Ytmjfnpmnhehnkaa
open Go.RowKit
structure DwN (w : World) (x : Dw) : Prop where
  op : i64 x.k.op
  id : i64 x.k.id
  pin : i64 x.k.pin
  own : i64 x.k.own
  lim : i64 x.k.lim
  client : i64 x.k.client
  num : 0 ≤ x.k.num ∧ x.k.num < 18446744073709551616
  sec : SN9 w x.k.sec
  sz : x.k.sec.l.length ≤ 64
  turn : i64 x.turn
theorem DwN.ext {w w' : World} {x : Dw} (h : DwN w x) (k : Ex w w') : DwN w' x := { h with sec := h.sec.ext k }
theorem DwN.kt {S : List Nat} {B : Nat} {w w' : World} {x : Dw} (h : DwN w x) (k : Kt S B w w') (hs : 5 ∉ S) : DwN w' x := { h with sec := h.sec.kt k hs }
theorem DwN.inn {w : World} {x : Dw} (h : DwN w x) : x.In w := ⟨⟨h.op, h.id, h.pin, h.own, h.lim, h.client, h.num.1, h.num.2, h.sec.1, Nat.le_trans h.sz (by decide)⟩, h.turn⟩
theorem Dw.C_one (x : Dw) : ∀ u ∈ x.C, u.oneCell' = true := by
  intro u hu
  simp only [Dw.C, Kq.C, List.cons_append, List.nil_append, List.mem_cons, List.not_mem_nil, or_false] at hu
  rcases hu with rfl | rfl | rfl | rfl | rfl | rfl | rfl | rfl | rfl <;> rfl
theorem Dw.len (x : Dw) : x.C.length = 9 := rfl
structure DwRow (w : World) (B : Nat) (v : Value) (xs : List Dw) : Prop where
  row : w.ownsRow B 94 9 v xs.length (xs.flatMap Dw.C)
  ins : ∀ (i : Nat) (x : Dw), xs[i]? = some x → DwN w x
theorem DwRow.nil (w : World) (B : Nat) : DwRow w B (.slice none 0 0) [] := ⟨World.ownsRow_nil _ _ _ _, fun i x hx => by simp at hx⟩
theorem DwRow.ext {w w' : World} {B : Nat} {v : Value} {xs : List Dw} (h : DwRow w B v xs) (k : Ex w w') : DwRow w' B v xs := ⟨k.row h.row, fun i x hx => (h.ins i x hx).ext k⟩
theorem DwRow.app {w w2 : World} {B : Nat} {v v' : Value} {xs : List Dw} {z : Dw} (h : DwRow w B v xs) (k : Kt [94] B w w2) (hr : w2.ownsRow B 94 9 v' (xs.length + 1) (xs.flatMap Dw.C ++ z.C)) (hz : DwN w z) : DwRow w2 B v' (xs ++ [z]) :=
  ⟨by rw [List.length_append, List.flatMap_append]; simpa using hr, fun i x hx => by
    rcases List.mem_append.1 (List.mem_of_getElem? hx) with h1 | h1
    · obtain ⟨j, hj, e⟩ := List.getElem_of_mem h1
      exact (h.ins j x (by rw [List.getElem?_eq_getElem hj, e])).kt k (by decide)
    · rw [List.mem_singleton.1 h1]; exact hz.kt k (by decide)⟩
theorem DwRow.inn {w : World} {B : Nat} {v : Value} {xs : List Dw} (h : DwRow w B v xs) : ∃ ad cap, v = .slice ad xs.length cap ∧ Dwp.In ad cap xs w := by
  obtain ⟨ad, cap, e, hnil, hc, _, hr⟩ := own_rd h.row
  exact ⟨ad, cap, e, hc, hnil, fun i x hx => (h.ins i x hx).inn, gflat_back Dw.C 9 (fun x _ => x.len) hr⟩
theorem Dwp.In.rd {ad : Option Addr} {cap : Nat} {l : List Dw} {w : World} (h : Dwp.In ad cap l w) : Rd w ad l.length 9 (l.flatMap Dw.C) := gflat_rd Dw.C 9 (by decide) (fun x _ => x.len) h.read
theorem dw_turned {w : World} {B : Nat} {v : Value} {xs : List Dw} (h : w.ownsRow B 94 9 v xs.length (xs.flatMap Dw.C)) (p : Nat) (t : Int) (ht : i64 t) (hp : p < xs.length) : ∃ (g cap : Nat) (C : List Value), v = .slice (some ⟨g, 0, none⟩) xs.length cap ∧ B ≤ g ∧ Bk w g 94 C.toArray ∧ p * 9 + 8 < C.length ∧
    ∀ w' : World, (∀ (i : Nat) (x : Dw), xs[i]? = some x → x.In w') → (Bk w' g 94 (C.set (p * 9 + 8) (.int .i64 t)).toArray → Dwp.In (some ⟨g, 0, none⟩) cap (xs.set p ⟨(xs.getD p ⟨⟨0, 0, 0, 0, 0, 0, 0, nilB⟩, 0⟩).k, t⟩) w') := by
  obtain ⟨h1, ⟨hv, h0⟩ | ⟨g, cap, cur, rfl, hb, hh, hc, hm, hs, htk⟩⟩ := h
  · omega
  have hps : p * 9 + 9 ≤ xs.length * 9 := by omega
  refine ⟨g, cap, cur.toList, rfl, hb, by rw [Array.toArray_toList]; exact hh, by rw [Array.length_toList, hs]; omega, fun w' hi hbk => ?_⟩
  have hx : xs[p]? = some xs[p] := List.getElem?_eq_getElem hp
  have hcur : ∀ (i : Nat) (x : Dw), xs[i]? = some x → ∀ j u, x.C[j]? = some u → cur.toList[i * 9 + j]? = some u := fun i x hx j u hu => by
    have hil : i < xs.length := (List.getElem?_eq_some_iff.1 hx).1
    have hj : j < 9 := (List.getElem?_eq_some_iff.1 hu).1
    have h3 := gflat_at Dw.C 9 xs (fun y _ => y.len) i j x hx hj
    rw [← htk, hu, List.getElem?_take, if_pos (by omega)] at h3
    exact h3
  refine ⟨by rw [List.length_set]; exact hc, (fun h => by cases h), fun i x hx2 => ?_, fun _ => ⟨g, 0, rfl, hbk.lt, fun i x hx2 j u hu => ?_⟩⟩
  · rcases Nat.lt_or_ge i xs.length with hil | hil
    · by_cases e : p = i
      · subst e
        rw [List.getElem?_set_self hp] at hx2
        cases hx2
        have := hi p _ hx
        refine ⟨?_, ht⟩
        show Kq.In (xs.getD p ⟨⟨0, 0, 0, 0, 0, 0, 0, nilB⟩, 0⟩).k w'
        rw [List.getD_eq_getElem?_getD, hx]
        exact this.k
      rw [List.getElem?_set_ne e] at hx2
      exact hi i x hx2
    rw [List.getElem?_eq_none (by rw [List.length_set]; exact hil)] at hx2; cases hx2
  rw [hbk.cell, Nat.zero_add, List.getElem?_toArray]
  have hj : j < 9 := (List.getElem?_eq_some_iff.1 hu).1
  by_cases e : p = i
  · subst e
    rw [List.getElem?_set_self hp] at hx2
    cases hx2
    rcases (show j < 8 ∨ j = 8 by omega) with h8 | rfl
    · rw [List.getElem?_set_ne (by omega)]
      refine hcur p _ hx j u ?_
      rw [List.getD_eq_getElem?_getD, hx] at hu
      unfold Dw.C at hu ⊢
      rw [List.getElem?_append_left (show j < 8 from h8)] at hu ⊢
      exact hu
    rw [List.getElem?_set_self (by rw [Array.length_toList, hs]; omega)]
    cases hu; rfl
  rw [List.getElem?_set_ne e] at hx2
  rw [List.getElem?_set_ne (by omega)]
  exact hcur i x hx2 j u hu
def zeroDw : Value := .agg #[.int .i64 0, .int .i64 0, .int .i64 0, .int .i64 0, .int .i64 0, .int .i64 0, .int .u64 0, .slice none 0 0, .int .i64 0]
theorem Try.infoDw : (Try.prog.info? 94).map (fun i => (i.zero, i.size, i.bytes)) = some (some zeroDw, 9, 88) := by kernel_rfl
theorem built_kq5 (a b c d : Int) (p : Pt) : Try.prog.built 76 [(0, .int .i64 a), (1, .int .i64 b), (2, .int .i64 c), (3, .int .i64 d), (4, .int .i64 2), (7, p.V)] = some (Kq.C ⟨a, b, c, d, 2, 0, 0, p⟩).toArray := by kernel_rfl
theorem built_dw (k : Kq) : Try.prog.built 94 [(0, k.V)] = some (Dw.C ⟨k, 0⟩).toArray := by
  obtain ⟨a, b, c, d, e, f, g, p⟩ := k
  kernel_rfl
set_option maxHeartbeats 8000000 in
set_option maxRecDepth 100000 in
theorem numbers25 (w : World) : Calls Try.prog 12 #[] w fun e w' => e = .returned (.bool true) ∧ Ex w w' := by
  have hcv := fun (w : World) (C : Array Value) (n c : Nat) => Lib.run_convert_bytes_const (P := Try.prog) w 25 5 C n c Try.underlying25 Try.underlying5
  go_enter Try.func12, Try.ntmps12
  go_wp2_with (first | (with_reducible refine stop_bs (t := 61) ?_) | (with_reducible refine stop_bs (t := 25) ?_) | (with_reducible refine stop_bs (t := 92) ?_) | (with_reducible refine stop_app ?_) | (with_reducible refine stop_build (t := 76) ?_) | (with_reducible refine stop_build (t := 94) ?_))
  go_loopw [1, 2] (fun v i wr => ∃ (k : Nat) (l : List Dw), k ≤ 40 ∧ i = .int .i64 k ∧ Hid (DwRow wr w.heap.size v l ∧ l.length = k) ∧ Hid (Ex w wr)) (fun _ i _ => 40 - (intOf i).toNat)
  case atStart => exact ⟨0, [], by omega, rfl, Hi ⟨DwRow.nil _ _, rfl⟩, Hi (Ex.refl _)⟩
  obtain ⟨k, l, hk, rfl, VR, BX⟩ := hrel
  by_cases hlt : k < 40
  · have q0 : (0 : Int) ≤ (k : Int) := by omega
    have q1 : (k : Int) < 40 := by omega
    obtain ⟨r, hr⟩ : ∃ r : Nat, r = k % 6 := ⟨_, rfl⟩
    have tm7 : (k : Int).tmod 6 = (r : Int) := by rw [Int.tmod_eq_emod_of_nonneg q0, hr]; omega
    have tm7b : (k : Int) % 6 = (r : Int) := by omega
    have hr6 : r ≤ 5 := by omega
    obtain ⟨r3, hr3⟩ : ∃ r : Nat, r = k % 5 := ⟨_, rfl⟩
    have tm3 : (k : Int).tmod 5 = (r3 : Int) := by rw [Int.tmod_eq_emod_of_nonneg q0, hr3]; omega
    have hr32 : r3 ≤ 4 := by omega
    obtain ⟨r4, hr4⟩ : ∃ r : Nat, r = k % 2 := ⟨_, rfl⟩
    have tm4 : (k : Int).tmod 2 = (r4 : Int) := by rw [Int.tmod_eq_emod_of_nonneg q0, hr4]; omega
    have hr43 : r4 ≤ 1 := by omega
    obtain ⟨d3, hd3⟩ : ∃ r : Nat, r = k / 9 := ⟨_, rfl⟩
    have td3 : (k : Int).tdiv 9 = (d3 : Int) := by rw [Int.tdiv_eq_ediv_of_nonneg q0, hd3]; omega
    have hd32 : d3 ≤ 40 := by omega
    have HR := Hi hr6
    clear hr3 hr4 hd3 tm7b hr
    go_wp2_with (first | (with_reducible refine stop_bs (t := 61) ?_) | (with_reducible refine stop_bs (t := 25) ?_) | (with_reducible refine stop_bs (t := 92) ?_) | (with_reducible refine stop_app ?_) | (with_reducible refine stop_build (t := 76) ?_) | (with_reducible refine stop_build (t := 94) ?_))
    (with_reducible refine ⟨?_⟩)
    go_wp2_with (first | (with_reducible refine stop_load (t := 3) ?_) | (with_reducible refine stop_bs (t := 25) ?_) | (with_reducible refine stop_bs (t := 92) ?_) | (with_reducible refine stop_app ?_) | (with_reducible refine stop_build (t := 76) ?_) | (with_reducible refine stop_build (t := 94) ?_))
    (with_reducible refine ⟨?_⟩)
    change wpList _ _ _ _ _ (wr.alloc (.cells #[.int .i64 0, .int .i64 1, .int .i64 1, .int .i64 2, .int .i64 1, .int .i64 3] 3))
    obtain ⟨op, c0, hop⟩ : ∃ op : Int, (wr.alloc (.cells #[.int .i64 0, .int .i64 1, .int .i64 1, .int .i64 2, .int .i64 1, .int .i64 3] 3)).cell? ⟨wr.heap.size, r, none⟩ = some (.int .i64 op) ∧ 0 ≤ op ∧ op ≤ 3 := by
      have hb := Bk.new (g := wr.heap.size) (w := wr) rfl 3 #[.int .i64 0, .int .i64 1, .int .i64 1, .int .i64 2, .int .i64 1, .int .i64 3]
      have h := HR.out
      rw [hb.cell]
      rcases (show r = 0 ∨ r = 1 ∨ r = 2 ∨ r = 3 ∨ r = 4 ∨ r = 5 by omega) with rfl | rfl | rfl | rfl | rfl | rfl <;> exact ⟨_, rfl, by decide, by decide⟩
    have xa : Ex wr (wr.alloc (.cells #[.int .i64 0, .int .i64 1, .int .i64 1, .int .i64 2, .int .i64 1, .int .i64 3] 3)) := Ex.alloc _ _
    generalize hw4 : (wr.alloc (.cells #[.int .i64 0, .int .i64 1, .int .i64 1, .int .i64 2, .int .i64 1, .int .i64 3] 3)) = w4 at *
    generalize wr.heap.size = g0 at *
    replace VR := Hi (And.intro (VR.out.1.ext xa) VR.out.2)
    replace BX := Hi (Ex.trans BX.out xa)
    clear hw4 xa
    go_wp2_with (first | (with_reducible refine stop_bs (t := 25) ?_) | (with_reducible refine stop_bs (t := 92) ?_) | (with_reducible refine stop_app ?_) | (with_reducible refine stop_build (t := 76) ?_) | (with_reducible refine stop_build (t := 94) ?_))
    (with_reducible refine ⟨?_⟩)
    go_wp2_with (first | (with_reducible refine stop_bs (t := 92) ?_) | (with_reducible refine stop_app ?_) | (with_reducible refine stop_build (t := 76) ?_) | (with_reducible refine stop_build (t := 94) ?_))
    (with_reducible refine ⟨?_⟩)
    change wpList _ _ _ _ _ (w4.alloc (.cells #[.int .u8 115] 5 (1, 2)))
    have xa : Ex w4 (w4.alloc (.cells #[.int .u8 115] 5 (1, 2))) := Ex.alloc _ _
    have hb : (w4.alloc (.cells #[.int .u8 115] 5 (1, 2))).heap[w4.heap.size]? = some (.cells #[.int .u8 115] 5 (1, 2)) := by unfold World.alloc; exact Array.getElem?_push_size
    generalize hw5 : (w4.alloc (.cells #[.int .u8 115] 5 (1, 2))) = w5 at *
    obtain ⟨g, hg⟩ : ∃ g, g = w4.heap.size := ⟨_, rfl⟩
    rw [← hg] at hb ⊢
    replace VR := Hi (And.intro (VR.out.1.ext xa) VR.out.2)
    replace BX := Hi (Ex.trans BX.out xa)
    have HPN : Hid (SN9 w5 ⟨some ⟨g, 0, none⟩, 1, [115]⟩) := Hi ⟨⟨Nat.le_refl _, (fun h => by cases h), fun _ => ⟨g, 0, rfl, blk_lt hb, fun i hi => by
        have hi : i < 1 := hi
        obtain rfl : i = 0 := by omega
        simp only [World.cell?, hb]
        rfl⟩⟩, fun a e => by cases e; exact ⟨_, _, hb⟩⟩
    clear hw5 hg hb xa
    (with_reducible refine at_any ?_ ?_); (focus go_simp); refine fun K0 hK => wp_build _ _ rfl _ (built_kq5 op (r3 : Int) (r4 : Int) (d3 : Int) ⟨some ⟨g, 0, none⟩, 1, [115]⟩) (hK _ _ ?_)
    clear hK
    obtain ⟨X, hX⟩ : ∃ X : Kq, X = ⟨op, (r3 : Int), (r4 : Int), (d3 : Int), 2, 0, 0, ⟨some ⟨g, 0, none⟩, 1, [115]⟩⟩ := ⟨_, rfl⟩
    rw [← hX]
    have HXO : Hid (DwN w5 ⟨X, 0⟩) := Hi (by
      rw [hX]
      have h0 := hop.1
      have h1 := hop.2
      exact ⟨by unfold i64; show _ ≤ op ∧ op ≤ _; omega, by unfold i64; show _ ≤ (r3 : Int) ∧ (r3 : Int) ≤ _; omega, by unfold i64; show _ ≤ (r4 : Int) ∧ (r4 : Int) ≤ _; omega, by unfold i64; show _ ≤ (d3 : Int) ∧ (d3 : Int) ≤ _; omega, by unfold i64; show _ ≤ (2 : Int) ∧ (2 : Int) ≤ _; omega, by unfold i64; show _ ≤ (0 : Int) ∧ (0 : Int) ≤ _; omega, ⟨Int.le_refl _, by show (0 : Int) < _; decide⟩, HPN.out, by show 1 ≤ 64; decide, by unfold i64; show _ ≤ (0 : Int) ∧ (0 : Int) ≤ _; omega⟩)
    clear hX HPN
    go_wp2_with (first | (with_reducible refine stop_bs (t := 92) ?_) | (with_reducible refine stop_app ?_) | (with_reducible refine stop_build (t := 76) ?_) | (with_reducible refine stop_build (t := 94) ?_))
    refine at9 (by go_simp) fun K0 hK => wp_build _ _ rfl _ (built_dw X) (hK _ _ ?_)
    clear hK
    generalize hY : (⟨X, 0⟩ : Dw) = Y at *
    clear hY
    go_wp2_with (first | (with_reducible refine stop_bs (t := 92) ?_) | (with_reducible refine stop_app ?_) | (with_reducible refine stop_build (t := 76) ?_) | (with_reducible refine stop_build (t := 94) ?_))
    refine at9 (by go_simp) fun K0 hK => wp_bs1 92 94 zeroDw 9 88 _ Y.C rfl Try.underlying92 Try.infoDw rfl (by decide) (by decide) Y.len rfl (hK _ _ ?_)
    clear hK
    have xa := Ex.alloc w5 (.cells Y.C.toArray 94)
    have NB := Hi (Bk.new (g := w5.heap.size) (w := w5) rfl 94 Y.C.toArray)
    replace HXO := Hi (HXO.out.ext xa)
    replace VR := Hi (And.intro (VR.out.1.ext xa) VR.out.2)
    replace BX := Hi (Ex.trans BX.out xa)
    generalize hw6 : w5.alloc (.cells Y.C.toArray 94) = w6 at *
    obtain ⟨g2, hg⟩ : ∃ g, g = w5.heap.size := ⟨_, rfl⟩
    rw [← hg] at NB ⊢
    clear hw6 hg xa
    have MR := Hi (Many.rd (n := 1) (sz := 9) ⟨g2, rfl, NB.out⟩ Y.len)
    go_wp2_with (first | (with_reducible refine stop_bs (t := 92) ?_) | (with_reducible refine stop_app ?_) | (with_reducible refine stop_build (t := 76) ?_) | (with_reducible refine stop_build (t := 94) ?_))
    obtain ⟨adx, ex, nx, rx⟩ := MR.out
    cases ex
    have RX := Hi rx
    clear rx nx MR
    refine at9 (by go_simp) fun K0 hK => wp_rd _ _ 92 94 zeroDw 9 88 rfl Try.underlying92 Try.infoDw rfl (by decide) w.heap.size l.length _ _ rfl VR.out.1.row BX.out.sz' _ 1 1 _ rfl RX.out (Nat.le_refl _) (fun h => by cases h) (Dw.C_one Y) (by have := VR.out.2; omega) (by have := VR.out.2; omega) (fun v5 w7 r1 r2 => hK _ _ ?_)
    clear hK
    replace BX := Hi (show Ex w w7 from Below.trans (show Below w.heap.size w _ from BX.out) r2.below)
    have VR2 : Hid (DwRow w7 w.heap.size v5 (l ++ [Y]) ∧ (l ++ [Y]).length = k + 1) := Hi ⟨VR.out.1.app r2 r1 HXO.out, by rw [List.length_append, VR.out.2]; rfl⟩
    clear r1 r2 hop c0
    go_wp2_with (first | (with_reducible refine stop_bs (t := 92) ?_) | (with_reducible refine stop_app ?_) | (with_reducible refine stop_build (t := 76) ?_) | (with_reducible refine stop_build (t := 94) ?_))
    go_roundw
    case rel => exact ⟨k + 1, l ++ [Y], by omega, by go_num, VR2, BX⟩
    case measure => simp [intOf]; omega
  have hk40 : k = 40 := by omega
  have q1 : ¬ (k : Int) < 40 := by omega
  go_wp2_with fail
  obtain ⟨ad, cap, hv, hin⟩ := VR.out.1.inn
  have HL40 : Hid (l.length = 40) := Hi (VR.out.2.trans hk40)
  have HIN := Hi hin
  rw [hv]
  rw [HL40.out]
  clear hv hin VR hcv hk40
  generalize (k : Int) = zk at *
  clear q1 hk
  obtain ⟨wl, rfl⟩ : ∃ u : World, u = wr := ⟨_, rfl⟩
  go_loopw [3] (fun i wq => ∃ k : Nat, k ≤ 40 ∧ i = .int .i64 k ∧ Hid (Ex wl wq)) (fun i _ => 40 - (intOf i).toNat)
  case atStart => exact ⟨0, by omega, rfl, Hi (Ex.refl _)⟩
  obtain ⟨k, hk, rfl, BQ⟩ := hrel
  by_cases hlt : k < 40
  rotate_left
  · obtain rfl : k = 40 := by omega
    go_wp2_with fail
    refine (known25 wr).mono ?_
    rintro e w2 ⟨rfl, x2⟩
    have Z := Hi (Ex.trans (Ex.trans BX.out BQ.out) x2)
    clear x2
    go_wp2_with fail
    go_ret
    exact ⟨rfl, Z.out⟩
  have q0 : (0 : Int) ≤ (k : Int) := by omega
  have q1 : (k : Int) < 40 := by omega
  go_wp2_with fail
  go_loopw [4] (fun i wq => ∃ t : Nat, t ≤ 6 ∧ i = .int .i64 t ∧ Hid (Ex wl wq)) (fun i _ => 6 - (intOf i).toNat)
  case atStart => exact ⟨0, by omega, rfl, BQ⟩
  clear BQ
  obtain ⟨t, ht, rfl, BQ⟩ := hrel
  by_cases htt : t < 6
  rotate_left
  · obtain rfl : t = 6 := by omega
    go_wp2_with fail
    go_roundw
    case rel => exact ⟨k + 1, by omega, by go_num, BQ⟩
    case measure => simp [intOf]; omega
  have q2 : (0 : Int) ≤ (t : Int) := by omega
  have q3 : (t : Int) < 6 := by omega
  go_wp2_with (first | (with_reducible refine stop_bs (t := 61) ?_) | (with_reducible refine stop_bs (t := 25) ?_) | (with_reducible refine stop_bs (t := 92) ?_) | (with_reducible refine stop_app ?_) | (with_reducible refine stop_build (t := 76) ?_) | (with_reducible refine stop_build (t := 94) ?_))
  (with_reducible refine ⟨?_⟩)
  go_wp2_with (with_reducible refine stop_app ?_)
  (with_reducible refine ⟨?_⟩)
  change wpList _ _ _ _ _ (wr.alloc (.cells #[] 94))
  obtain ⟨gz, hgz⟩ : ∃ g, g = wr.heap.size := ⟨_, rfl⟩
  have HGZ : Hid (wl.heap.size ≤ gz) := Hi (by rw [hgz]; exact Below.size BQ.out)
  have HEM : Hid (Emp gz (wr.alloc (.cells #[] 94)) 94 (.slice (some ⟨wr.heap.size, 0, none⟩) 0 0)) := Hi ⟨wr.heap.size, rfl, by rw [hgz]; exact Nat.le_refl _, Bk.new rfl _ _⟩
  have xa : Ex wr (wr.alloc (.cells #[] 94)) := Ex.alloc _ _
  have hgs : gz ≤ (wr.alloc (.cells #[] 94)).heap.size := by rw [hgz]; exact Below.size xa
  replace BQ := Hi (Ex.trans BQ.out xa)
  generalize hw3 : (wr.alloc (.cells #[] 94)) = w3 at *
  generalize wr.heap.size = ge at *
  clear hw3 xa hgz
  (with_reducible refine at_any ?_ ?_); (focus go_simp); refine fun K0 hK => wp_rd0 _ _ 92 94 zeroDw 9 88 rfl Try.underlying92 Try.infoDw rfl (by decide) gz _ rfl HEM.out hgs ad 40 cap (l.flatMap Dw.C) rfl (by rw [← HL40.out]; exact (HIN.out.ext BQ.out).rd) (by rw [← HL40.out]; exact HIN.out.len) HIN.out.nil (gflat_one Dw.C fun x _ => x.C_one) (by omega) (by omega) (fun v5 w5 r1 r2 => hK _ _ ?_)
  clear hK
  have r3 : w5.ownsRow gz 94 9 v5 l.length (l.flatMap Dw.C) := by rw [HL40.out]; exact r1
  obtain ⟨g, cap2, C, hv, hB, hb, hoff, hto⟩ := dw_turned r3 k (t : Int) (by unfold i64; omega) (by rw [HL40.out]; exact hlt)
  rw [HL40.out] at hv
  subst hv
  have HB := Hi hb
  have HTO := Hi hto
  replace BQ := Hi (Ex.trans BQ.out r2)
  clear r1 r2 r3 hb hto HEM hgs
  go_wp2_with ((with_reducible refine so4 [1000 + 3] ?_ ?_); (focus rfl))
  refine at9 (by go_simp) fun K0 hK => wp_st1 _ _ g (k * 9 + 8) (.int .i64 (t : Int)) rfl rfl rfl HB.out hoff (by kernel_rfl) rfl (fun w6 hd ho => hK _ _ ?_)
  clear hK
  have x6 : Ex wl w6 := ho.below wl.heap.size (Nat.le_trans HGZ.out hB) wl BQ.out
  have hdin := HTO.out w6 (fun i x hx => ((HIN.out.ext x6).ins i x hx)) hd
  have BX6 := Hi x6
  obtain ⟨L2, hL2⟩ : ∃ L : List Dw, L = l.set k ⟨(l.getD k ⟨⟨0, 0, 0, 0, 0, 0, 0, nilB⟩, 0⟩).k, (t : Int)⟩ := ⟨_, rfl⟩
  have hL3 : L2.length = 40 := by rw [hL2, List.length_set]; exact HL40.out
  rw [← hL2] at hdin
  have CM := made_any _ _ L2 w6 (by omega) hdin
  rw [hL3] at CM
  have CM2 := Hi CM
  clear CM hdin hL2 hL3 L2 hd ho x6 HTO HB hB hoff BQ
  go_wp2_with fail
  refine CM2.out.mono ?_
  rintro e w7 ⟨v7, ds, rfl, hrow, hds, x7⟩
  obtain ⟨adz, capz, e7, hmin⟩ := hrow.inn
  subst e7
  have CS := same25 adz capz ds w7 (by omega) hmin
  obtain ⟨nz, hnz⟩ : ∃ n, n = ds.length := ⟨_, rfl⟩
  rw [← hnz] at CS ⊢
  have CS2 := Hi CS
  replace BX6 := Hi (Ex.trans BX6.out x7)
  clear CS hnz hmin hrow hds x7 CM2
  go_wp2_with fail
  refine CS2.out.mono ?_
  rintro e w8 ⟨rfl, x8⟩
  replace BX6 := Hi (Ex.trans BX6.out x8)
  clear x8 CS2
  go_wp2_with fail
  go_roundw
  case rel => exact ⟨t + 1, by omega, by go_num, BX6⟩
  case measure => simp [intOf]; omega
end Go.Proofs.Ytmjfnpmnhehnkaa
