/- Th, Ua -/
import Derived.Test.YtmjfnpmnhehnkaaQai
import Derived.Test.YtmjfnpmnhehnkaaQai
set_option maxRecDepth 100000
set_option maxHeartbeats 16000000
namespace Go.Proofs.Ytmjfnpmnhehnkaa
open Go.RowKit
structure Tc (D : Nat) (r : Option Nat) (w w' : World) : Prop where
 os : w'.os = w.os
 tape : w'.tape = w.tape
 output : w'.output = w.output
 size : w.heap.size ≤ w'.heap.size
 block : ∀ k, k < w.heap.size → k ≠ D → some k ≠ r → w'.heap[k]? = w.heap[k]?
theorem Ex.tc {w w' : World} (D : Nat) (r : Option Nat) (h : Ex w w') : Tc D r w w' := ⟨h.os, h.tape, h.output, Below.size h, fun k hk _ _ => h.block k hk⟩
theorem grownBy_tc {w w' : World} (D : Nat) {r : Option Nat} (h : w.grownBy w' r) : Tc D r w w' := ⟨h.os, h.tape, h.output, h.size, fun k hk _ hr => h.block k hk hr⟩
theorem Only.tc {w w' : World} {g D : Nat} {r : Option Nat} (h : Only g w w') (hg : g = D ∨ r = some g) : Tc D r w w' := by
 have hb := h.below 0 (Nat.zero_le _) w (Below.refl 0 w)
 refine ⟨hb.os, hb.tape, hb.output, by rw [h.size]; exact Nat.le_refl _, fun k _ h1 h2 => h.other k ?_⟩
 rintro rfl
 rcases hg with e | e
 ·exact h1 e
 exact h2 e.symm
theorem Tc.trans {D : Nat} {r r' : Option Nat} {a b c : World} (h : Tc D r a b) (k : Tc D r' b c) (hr : r' = r ∨ ∀ g, r' = some g → a.heap.size ≤ g) : Tc D r a c :=
 ⟨k.os.trans h.os, k.tape.trans h.tape, k.output.trans h.output, Nat.le_trans h.size k.size, fun i hi h1 h2 => (k.block i (Nat.lt_of_lt_of_le hi h.size) h1 (by
  rcases hr with e | e
  ·rw [e]; exact h2
  ·intro he; have := e i he.symm; omega)).trans (h.block i hi h1 h2)⟩
theorem Tc.ex {D : Nat} {r : Option Nat} {w0 w w' : World} (k : Tc D r w w') (h : Ex w0 w) (hD : w0.heap.size ≤ D) (hr : ∀ g, r = some g → w0.heap.size ≤ g) : Ex w0 w' :=
 ⟨k.os.trans h.os, k.tape.trans h.tape, k.output.trans h.output, Nat.le_trans (Below.size h) k.size, fun i hi => (k.block i (Nat.lt_of_lt_of_le hi (Below.size h)) (by omega) (fun e => by have := hr i e.symm; omega)).trans (h.block i hi)⟩
theorem Tc.bk {D g : Nat} {r : Option Nat} {w w' : World} {t : TypeId} {cs : Array Value} (k : Tc D r w w') (hb : Bk w g t cs) (h1 : g ≠ D) (h2 : some g ≠ r) : Bk w' g t cs := (k.block g hb.lt h1 h2).trans hb
theorem ex_grownBy {a b c : World} {r : Option Nat} (h : Ex a b) (k : b.grownBy c r) : a.grownBy c r :=
 ⟨k.os.trans h.os, k.tape.trans h.tape, k.output.trans h.output, Nat.le_trans (Below.size h) k.size, fun i hi hne => (k.block i (Nat.lt_of_lt_of_le hi (Below.size h)) hne).trans (h.block i hi)⟩
theorem Lies.ex {a b : World} {v v' : Value} (h : Lies b v v') (k : Ex a b) : Lies a v v' := h.imp id fun h g hg => Nat.le_trans (Below.size k) (h g hg)
theorem own_store {w : World} {B sz n : Nat} {v : Value} {xs : List Value} {e : TypeId} (h : w.ownsRow B e sz v n xs) (p : Nat) (hp : p < n) : ∃ (g cap : Nat) (C : List Value), v = .slice (some ⟨g, 0, none⟩) n cap ∧ B ≤ g ∧ Bk w g e C.toArray ∧ p * sz + sz ≤ C.length ∧ n ≤ cap ∧
  ∀ ds : List Value, ds.length = sz → ∀ w', Bk w' g e (C.take (p * sz) ++ ds ++ C.drop (p * sz + ds.length)).toArray → w'.ownsRow B e sz v n (xs.take (p * sz) ++ ds ++ xs.drop (p * sz + ds.length)) := by
 obtain ⟨h1, ⟨hv, h0⟩ | ⟨g, cap, cur, rfl, hb, hh, hc, hm, hs, ht⟩⟩ := h
 ·omega
 have hps : p * sz + sz ≤ n * sz := by rw [← Nat.succ_mul]; exact Nat.mul_le_mul_right _ hp
 have hns : n * sz ≤ cap * sz := Nat.mul_le_mul_right _ hc
 refine ⟨g, cap, cur.toList, rfl, hb, by rw [Array.toArray_toList]; exact hh, by rw [Array.length_toList, hs]; omega, hc, fun ds hl w' hbk => ⟨?_, Or.inr ⟨g, cap, _, rfl, hb, hbk, hc, hm, ?_, ?_⟩⟩⟩
 ·simp only [List.length_append, List.length_take, List.length_drop, h1, hl]; omega
 ·simp only [List.size_toArray, List.length_append, List.length_take, List.length_drop, Array.length_toList, hs, hl]; omega
 show (cur.toList.take (p * sz) ++ ds ++ cur.toList.drop (p * sz + ds.length)).take (n * sz) = _
 have hA : (cur.toList.take (p * sz) ++ ds).length = p * sz + sz := by rw [List.length_append, List.length_take, Array.length_toList, hs, hl]; omega
 rw [List.take_append, hA, List.take_of_length_le (by rw [hA]; omega), ← ht, List.take_take, Nat.min_eq_left (by omega), List.drop_take, hl]
theorem vflat_take {vs : List Vt} (h : ∀ (i : Nat) (x : Vt), vs[i]? = some x → x.Ok) (p : Nat) : (vs.flatMap Vt.C).take (p * 42) = (vs.take p).flatMap Vt.C := by
 rcases Nat.lt_or_ge vs.length p with hp | hp
 ·rw [List.take_of_length_le (by rw [vflat_len vs h]; exact Nat.mul_le_mul_right _ (by omega)), List.take_of_length_le (by omega)]
 have e : vs.flatMap Vt.C = (vs.take p).flatMap Vt.C ++ (vs.drop p).flatMap Vt.C := by rw [← List.flatMap_append, List.take_append_drop]
 have hl : ((vs.take p).flatMap Vt.C).length = p * 42 := by
  rw [vflat_len _ (fun i x hx => by
   rw [List.getElem?_take] at hx
   split at hx
   ·exact h i x hx
   ·cases hx), List.length_take, Nat.min_eq_left hp]
 rw [e, ← hl]; exact List.take_left
theorem vflat_drop {vs : List Vt} (h : ∀ (i : Nat) (x : Vt), vs[i]? = some x → x.Ok) (p : Nat) : (vs.flatMap Vt.C).drop (p * 42) = (vs.drop p).flatMap Vt.C := by
 have h1 := List.take_append_drop (p * 42) (vs.flatMap Vt.C)
 rw [vflat_take h] at h1
 have e : vs.flatMap Vt.C = (vs.take p).flatMap Vt.C ++ (vs.drop p).flatMap Vt.C := by rw [← List.flatMap_append, List.take_append_drop]
 exact List.append_cancel_left (h1.trans e)
theorem vflat_set {vs : List Vt} (h : ∀ (i : Nat) (x : Vt), vs[i]? = some x → x.Ok) (p : Nat) (hp : p < vs.length) (z : Vt) (hz : z.Ok) : (vs.set p z).flatMap Vt.C = (vs.flatMap Vt.C).take (p * 42) ++ z.C ++ (vs.flatMap Vt.C).drop (p * 42 + z.C.length) := by
 rw [Vt.len hz, show p * 42 + 42 = (p + 1) * 42 from (Nat.succ_mul p 42).symm, vflat_take h, vflat_drop h, List.set_eq_take_append_cons_drop, if_pos hp, List.flatMap_append, List.flatMap_cons, List.append_assoc]
theorem vflat_ins {vs : List Vt} (h : ∀ (i : Nat) (x : Vt), vs[i]? = some x → x.Ok) (p : Nat) (z : Vt) : (vs.take p ++ z :: vs.drop p).flatMap Vt.C = (vs.flatMap Vt.C).take (p * 42) ++ z.C ++ (vs.flatMap Vt.C).drop (p * 42) := by
 rw [vflat_take h, vflat_drop h, List.flatMap_append, List.flatMap_cons, List.append_assoc]
theorem idF_ins_lt {vs : List Vt} {p : Nat} {z : Vt} (hp : p ≤ vs.length) {i : Nat} (h : i < p) : idF (vs.take p ++ z :: vs.drop p) i = idF vs i := by
 unfold idF
 rw [List.getD_eq_getElem?_getD, List.getD_eq_getElem?_getD, List.getElem?_append_left (by rw [List.length_take]; omega), List.getElem?_take, if_pos h]
theorem idF_ins_eq {vs : List Vt} {p : Nat} {z : Vt} (hp : p ≤ vs.length) : idF (vs.take p ++ z :: vs.drop p) p = idn z.id := by
 unfold idF
 rw [List.getD_eq_getElem?_getD, List.getElem?_append_right (by rw [List.length_take]; omega), List.length_take, Nat.min_eq_left hp, Nat.sub_self]; rfl
theorem idF_ins_gt {vs : List Vt} {p : Nat} {z : Vt} (hp : p ≤ vs.length) {i : Nat} (h : p ≤ i) : idF (vs.take p ++ z :: vs.drop p) (i + 1) = idF vs i := by
 unfold idF
 rw [List.getD_eq_getElem?_getD, List.getD_eq_getElem?_getD, List.getElem?_append_right (by rw [List.length_take]; omega), List.length_take, Nat.min_eq_left hp, show i + 1 - p = (i - p) + 1 from by omega, List.getElem?_cons_succ, List.getElem?_drop, show p + (i - p) = i from by omega]
theorem srt_ins {vs : List Vt} {p : Nat} {z : Vt} (hp : p ≤ vs.length) (hlt : ∀ q, q < p → idF vs q < idn z.id) (hgt : ∀ q, p ≤ q → q < vs.length → idn z.id < idF vs q) (hs : ∀ i j, i < j → j < vs.length → idF vs i < idF vs j) :
  ∀ i j, i < j → j < (vs.take p ++ z :: vs.drop p).length → idF (vs.take p ++ z :: vs.drop p) i < idF (vs.take p ++ z :: vs.drop p) j := by
 intro i j hij hj
 have hl : (vs.take p ++ z :: vs.drop p).length = vs.length + 1 := by simp; omega
 rw [hl] at hj
 rcases Nat.lt_or_ge j p with h | h
 ·rw [idF_ins_lt hp h, idF_ins_lt hp (by omega)]; exact hs i j hij (by omega)
 rcases Nat.eq_or_lt_of_le h with e | h
 ·subst e
  rw [idF_ins_eq hp, idF_ins_lt hp hij]; exact hlt i hij
 obtain ⟨k, rfl⟩ : ∃ k, j = k + 1 := ⟨j - 1, by omega⟩
 rw [idF_ins_gt hp (by omega)]
 rcases Nat.lt_or_ge i p with h2 | h2
 ·rw [idF_ins_lt hp h2]; exact Nat.lt_trans (hlt i h2) (hgt k (by omega) (by omega))
 rcases Nat.eq_or_lt_of_le h2 with e | h2
 ·subst e
  rw [idF_ins_eq hp]; exact hgt k (by omega) (by omega)
 obtain ⟨m, rfl⟩ : ∃ m, i = m + 1 := ⟨i - 1, by omega⟩
 rw [idF_ins_gt hp (by omega)]; exact hs m k (by omega) (by omega)
theorem idF_set {vs : List Vt} {p : Nat} {z : Vt} (hp : p < vs.length) (h : idF vs p = idn z.id) (i : Nat) : idF (vs.set p z) i = idF vs i := by
 by_cases e : p = i
 ·subst e
  rw [h]; unfold idF
  rw [List.getD_eq_getElem?_getD, List.getElem?_set_self hp]; rfl
 unfold idF
 rw [List.getD_eq_getElem?_getD, List.getElem?_set_ne e, List.getD_eq_getElem?_getD]
theorem VRow.oks {w : World} {B : Nat} {v : Value} {xs : List Vt} (h : VRow w B v xs) : ∀ (i : Nat) (x : Vt), xs[i]? = some x → x.Ok := fun i x hx => (h.ins i x hx).ok
theorem VRow.mem {w : World} {B : Nat} {v : Value} {xs : List Vt} (h : VRow w B v xs) {x : Vt} (hx : x ∈ xs) : TVN w x := by
 obtain ⟨i, hi, e⟩ := List.getElem_of_mem hx
 exact h.ins i x (by rw [List.getElem?_eq_getElem hi, e])
theorem TVN.tc {w w' : World} {D gb : Nat} {r : Option Nat} {x : Vt} {rc : Array Value} (h : TVN w x) (k : Tc D r w w') (hD : Bk w D 169 rc) (hr : r = none ∨ (r = some gb ∧ ∃ cs, Bk w gb 36 cs)) : TVN w' x := by
 refine ⟨h.ok, ⟨⟨h.sec.1.cap, h.sec.1.nil, fun h0 => ?_⟩, fun a e => ⟨Nat.zero_le _, (h.sec.2 a e).2.elim fun cs hc => ⟨cs, ?_⟩⟩⟩, h.len⟩
 ·obtain ⟨a, o, e, hB, hc⟩ := h.sec.1.read h0
  obtain ⟨_, cs, hb⟩ := h.sec.2 _ e
  refine ⟨a, o, e, Nat.lt_of_lt_of_le hB k.size, fun i hi => ?_⟩
  rw [← hc i hi]
  have h2 : Bk w' a 5 cs := k.bk hb (fun e => by subst e; unfold Bk at hb hD; rw [hb] at hD; cases hD) (by
   rcases hr with rfl | ⟨rfl, cs2, hb2⟩
   ·intro e; cases e
   ·intro e; cases e; unfold Bk at hb hb2; rw [hb] at hb2; cases hb2)
  unfold Bk at hb h2
  simp only [World.cell?, h2, hb]
 exact k.bk hc (fun e => by subst e; unfold Bk at hc hD; rw [hc] at hD; cases hD) (by
  rcases hr with rfl | ⟨rfl, cs2, hb2⟩
  ·intro e; cases e
  ·intro e; cases e; unfold Bk at hc hb2; rw [hc] at hb2; cases hb2)
theorem VRow.blk {w : World} {B : Nat} {v : Value} {xs : List Vt} (h : VRow w B v xs) : v.ownBlock = none ∨ ∃ gb, v.ownBlock = some gb ∧ B ≤ gb ∧ gb < w.heap.size ∧ ∃ cs, Bk w gb 36 cs := by
 obtain ⟨_, ⟨rfl, h0⟩ | ⟨g, cap, cur, rfl, hb, hh, _⟩⟩ := h.row
 ·exact Or.inl rfl
 exact Or.inr ⟨g, rfl, hb, (show Bk w g 36 cur from hh).lt, cur, hh⟩
def NotIn (vs : List Vt) (X : Nat) : Prop := ¬ ∃ q, q < vs.length ∧ idF vs q = X
def PutPost (D : Nat) (rv : Value) (vs : List Vt) (x : Vt) (w : World) (e : Ending) (w' : World) : Prop :=
 (x.ct.right = false ∧ e = .returned (.int .i64 1) ∧ Ex w w') ∨
 (x.ct.right = true ∧ ∃ p, BI vs.length (idF vs) (idn x.id) p ∧
  ((∃ z, p < vs.length ∧ idF vs p = idn x.id ∧ e = .returned (.int .i64 0) ∧ z.ct = x.ct ∧ TB w' D rv (vs.set p z) ∧ Tc D rv.ownBlock w w') ∨
   (NotIn vs (idn x.id) ∧ vs.length = 4 ∧ e = .returned (.int .i64 13) ∧ Ex w w') ∨
   (∃ z rv', NotIn vs (idn x.id) ∧ vs.length < 4 ∧ e = .returned (.int .i64 0) ∧ z.ct = x.ct ∧ TB w' D rv' (vs.take p ++ z :: vs.drop p) ∧ Tc D rv.ownBlock w w' ∧ Lies w rv rv')))
theorem ct_id {z x : Vt} (h : z.ct = x.ct) : z.id = x.id := congrArg Vc.id h
theorem TB.put {w w' : World} {D gb cap : Nat} {vs : List Vt} {C : List Value} {p : Nat} {z x : Vt} (hn : vs.length ≤ 4) (h : TB w D (.slice (some ⟨gb, 0, none⟩) vs.length cap) vs) (hp : p < vs.length) (hf : idF vs p = idn x.id) (hz : z.ct = x.ct) (hzn : TVN w z) (hgb : D + 1 ≤ gb) (hb : Bk w gb 36 C.toArray)
  (hset : ∀ ds : List Value, ds.length = 42 → ∀ w', Bk w' gb 36 (C.take (p * 42) ++ ds ++ C.drop (p * 42 + ds.length)).toArray → w'.ownsRow (D + 1) 36 42 (.slice (some ⟨gb, 0, none⟩) vs.length cap) vs.length ((vs.flatMap Vt.C).take (p * 42) ++ ds ++ (vs.flatMap Vt.C).drop (p * 42 + ds.length)))
  (hd : Bk w' gb 36 (C.take (p * 42) ++ z.C ++ C.drop (p * 42 + z.C.length)).toArray) (ho : Only gb w w') : TB w' D (.slice (some ⟨gb, 0, none⟩) vs.length cap) (vs.set p z) := by
 have hk : Kt [36] 0 w w' := Kt.md ho.md (Nat.zero_le _) hb (List.mem_singleton.2 rfl)
 refine ⟨ho.bk h.blk (by omega), ⟨?_, fun i y hy => ?_⟩, by rw [List.length_set]; exact hn, fun i j hij hj => ?_⟩
 ·rw [vflat_set h.row.oks p hp z hzn.ok, List.length_set]
  exact hset z.C (Vt.len hzn.ok) w' hd
 ·rcases List.mem_or_eq_of_mem_set (List.mem_of_getElem? hy) with hm | rfl
  ·exact (h.row.mem hm).kt hk (by decide)
  exact hzn.kt hk (by decide)
 have hf' : idF vs p = idn z.id := by rw [hf, ct_id hz]
 rw [List.length_set] at hj
 rw [idF_set hp hf', idF_set hp hf']
 exact h.srt i j hij hj
theorem tput_any (D : Nat) (rv : Value) (vs : List Vt) (x : Vt) (w : World) (h : TB w D rv vs) (hx : VI w x) : Calls Try.prog 60 #[.pointer (some ⟨D, 0, none⟩), x.V] w (PutPost D rv vs x w) := by
 obtain ⟨cs, hcs⟩ : ∃ cs, cs = x.C.toArray := ⟨_, rfl⟩
 have A0 : Hid (VB (w.alloc (.cells cs 36)) w.heap.size x) := Hi ⟨hx.ok, by rw [hcs]; exact Bk.new rfl _ _⟩
 have BW : Hid (Ex w (w.alloc (.cells cs 36))) := Hi (Ex.alloc w _)
 have HTB := Hi (h.ext BW.out)
 have HXI := Hi (hx.ext BW.out)
 obtain ⟨ad, cap, rfl, _⟩ := h.row.inn
 have HLEN := Hi h.len
 rw [show (Calls Try.prog 60 #[.pointer (some ⟨D, 0, none⟩), x.V] w) = (Calls Try.prog 60 #[.pointer (some ⟨D, 0, none⟩), .agg cs] w) by rw [hcs]; rfl]
 obtain ⟨n, hn⟩ : ∃ n, n = vs.length := ⟨_, rfl⟩
 rw [← hn] at HTB HLEN ⊢
 have HN := Hi hn
 have hn4 := HLEN.out
 clear hcs hx h hn
 go_enter Try.func60, Try.ntmps60
 skip
 go_wp2_with (first | ((with_reducible refine so4 [36, 1000+36, 32, 1000+32, 4000+36] ?_ ?_); (focus rfl)) | (with_reducible refine stop_bs (t := 37) ?_) | (with_reducible refine stop_app ?_))
 skip
 generalize hw1 : (w.alloc (.cells cs 36)) = w1 at *
 clear hw1
 obtain ⟨g, hg⟩ : ∃ g, g = w.heap.size := ⟨_, rfl⟩
 rw [← hg] at A0 ⊢
 clear hg
 refine at9 (by go_simp) fun K0 hK => ld_v _ g x rfl rfl A0.out (hK _ _ ?_)
 clear hK
 go_wp2_with (first | ((with_reducible refine so4 [36, 1000+36, 32, 1000+32, 4000+36] ?_ ?_); (focus rfl)) | (with_reducible refine stop_bs (t := 37) ?_) | (with_reducible refine stop_app ?_))
 refine (vright_any x w1 HXI.out).mono ?_
 rintro e w2 ⟨rfl, x2⟩
 replace A0 := Hi (A0.out.ext x2)
 replace HTB := Hi (HTB.out.ext x2)
 replace HXI := Hi (HXI.out.ext x2)
 replace BW := Hi (Ex.trans BW.out x2)
 clear x2
 obtain ⟨br, hbr⟩ : ∃ b, b = x.ct.right := ⟨_, rfl⟩
 have HBR := Hi hbr
 rw [← hbr]
 clear hbr
 cases br
 ·skip
  go_wp2_with fail
  go_ret
  exact Or.inl ⟨HBR.out.symm, rfl, BW.out⟩
 skip
 go_wp2_with (first | ((with_reducible refine so4 [36, 1000+36, 32, 1000+32, 4000+36] ?_ ?_); (focus rfl)) | (with_reducible refine stop_bs (t := 37) ?_) | (with_reducible refine stop_app ?_))
 refine at9 (by go_simp) fun K0 hK => ld_vid _ g x rfl rfl A0.out (hK _ _ ?_)
 clear hK
 go_wp2_with (first | ((with_reducible refine so4 [36, 1000+36, 32, 1000+32, 4000+36] ?_ ?_); (focus rfl)) | (with_reducible refine stop_bs (t := 37) ?_) | (with_reducible refine stop_app ?_))
 have CF := find_any D (.slice ad n cap) vs x.id w2 HTB.out HXI.out.ok.idN
 rw [← HN.out] at CF
 refine CF.mono ?_
 rintro e w3 ⟨p, rfl, hbi, x2⟩
 clear CF
 have HBI := Hi hbi
 obtain ⟨b, hb⟩ : ∃ b, b = decide (∃ q, q < n ∧ idF vs q = idn x.id) := ⟨_, rfl⟩
 rw [← hb]
 have HB := Hi hb
 replace HTB := Hi (HTB.out.ext x2)
 replace A0 := Hi (A0.out.ext x2)
 replace HXI := Hi (HXI.out.ext x2)
 replace BW := Hi (Ex.trans BW.out x2)
 clear hbi hb x2
 cases b
 rotate_left
 ·have hpp : p < n ∧ idF vs p = idn x.id := by
   obtain ⟨q, hq1, hq2⟩ : ∃ q, q < n ∧ idF vs q = idn x.id := of_decide_eq_true HB.out.symm
   obtain ⟨z1, z2, z3⟩ := HBI.out
   have hpq : p ≤ q := by
    rcases Nat.lt_or_ge q p with h | h
    ·have := z2 q h; omega
    ·exact h
   have h3 := z3 p (Nat.le_refl _) (by omega)
   have h4 := HTB.out.mono p q hpq (by rw [← HN.out]; exact hq1)
   exact ⟨by omega, by omega⟩
  obtain ⟨hpn, hpf⟩ := hpp
  have HPF := Hi hpf
  have q0 : (0 : Int) ≤ (p : Int) := by omega
  have q1 : (p : Int) < (n : Int) := by omega
  clear hpf
  obtain ⟨gb, cap2, C, e2, hgb, hbk, hcl, hnc, hset⟩ := own_store HTB.out.row.row p (by rw [← HN.out]; exact hpn)
  rw [← HN.out] at e2
  cases e2
  have HGB := Hi hgb
  have HBK := Hi hbk
  have HCL := Hi hcl
  have HST := Hi hset
  clear hgb hbk hcl hnc hset
  have c0 : w3.cell? ⟨D, 0, none⟩ = some (.slice (some ⟨gb, 0, none⟩) n cap) := HTB.out.blk.cell 0
  go_wp2_with fail
  obtain ⟨T, hT⟩ : ∃ T : List Sx, T = [.is (.pointer (some ⟨D, 0, none⟩)), .is (.pointer (some ⟨D, 0, none⟩)), .is (.pointer (some ⟨D, 0, none⟩)), .is (.slice (some ⟨gb, 0, none⟩) n cap), .is (.int .i64 p), .is (x.V), .of (fun v w9 => ∃ z : Vt, v = z.V ∧ z.ct = x.ct ∧ TVN w9 z) (fun v _ _ h k => by obtain ⟨z, h1, h2, h3⟩ := h; exact ⟨z, h1, h2, h3.ext k⟩), .is (.pointer (some ⟨gb, p * 42, none⟩)), .any] := ⟨_, rfl⟩
  have HFX : T.map Sx.fixed = [true, true, true, true, true, true, false, true, true] := by rw [hT]; rfl
  have hFst : ∀ w w', (fun w9 => ∃ z : Vt, z.ct = x.ct ∧ TB w9 D (.slice (some ⟨gb, 0, none⟩) n cap) (vs.set p z) ∧ Tc D (some gb) w3 w9) w → Ex w w' → (fun w9 => ∃ z : Vt, z.ct = x.ct ∧ TB w9 D (.slice (some ⟨gb, 0, none⟩) n cap) (vs.set p z) ∧ Tc D (some gb) w3 w9) w' := fun _ _ h k => by obtain ⟨z, h1, h2, h3⟩ := h; exact ⟨z, h1, h2.ext k, h3.trans (Ex.tc _ _ k) (Or.inl rfl)⟩
  refine wp_region_gen (JE w3 T ([none, none, none, none, none, none, some 8, none, none] : List (Option Nat)) ([(8, 3), (8, 5), (8, 6)] : List (Nat × Nat)) 8 8 (fun w9 => ∃ z : Vt, z.ct = x.ct ∧ TB w9 D (.slice (some ⟨gb, 0, none⟩) n cap) (vs.set p z) ∧ Tc D (some gb) w3 w9)) (by kernel_rfl) (by kernel_rfl) (by kernel_rfl) (fitB_spec (by kernel_rfl)) (fun listed f h => JE.start listed f h) ?_ ?_
  ·intro i o ho
   have hi : i < 9 := (Array.getElem?_eq_some_iff.1 ho).1
   have hi' : i = 0 ∨ i = 1 ∨ i = 2 ∨ i = 3 ∨ i = 4 ∨ i = 5 ∨ i = 6 ∨ i = 7 ∨ i = 8 := by omega
   clear hi
   rcases hi' with rfl | rfl | rfl | rfl | rfl | rfl | rfl | rfl | rfl
   all_goals (simp only [List.getElem?_toArray, List.getElem?_cons_zero, List.getElem?_cons_succ, Option.some.injEq] at ho; subst ho; intro listed f a w4 hJ hsz hls hun hdep hout hlat; first | (rw [if_pos (by rfl)]; intro K hK) | skip)
   ·have q0 := hout 0 ob
    exact wp_mw _ rfl q0 (hK _ _ (hJ.plain (by rw [hls]; decide) hFst (by decide) (Ex.refl _) (by rw [hT]; rfl) nh))
   ·have q18 := hJ.iv hT (hdep ⟨0, .data⟩ (by simp) rfl) rfl rfl _ rfl _ rfl
    clear hsz hdep hout hlat
    go_simp
    exact hK _ _ (hJ.plain (by rw [hls]; decide) hFst (by decide) (Ex.refl _) (by rw [hT]; rfl) nh)
   ·have q19 := hJ.iv hT (hdep ⟨1, .data⟩ (by simp) rfl) rfl rfl _ rfl _ rfl
    clear hsz hdep hout hlat
    go_simp
    exact hK _ _ (hJ.plain (by rw [hls]; decide) hFst (by decide) (Ex.refl _) (by rw [hT]; rfl) nh)
   ·have q20 := hJ.iw hT (hdep ⟨2, .data⟩ (by simp) rfl) rfl rfl _ rfl _ rfl
    have hcut : listed.getD 8 false = false := by
     cases hc : listed.getD 8 false with
     | false => rfl
     | true =>
      have hc0 := hJ.ord (8, 3) (by simp) hc
      exact absurd hc0 (by rw [hun]; decide)
    have hpre := hJ.pre hcut
    have c1 : w4.cell? ⟨D, 0, none⟩ = some (.slice (some ⟨gb, 0, none⟩) n cap) := (HTB.out.ext hpre).blk.cell 0
    rw [gd9] at q20
    clear hsz hdep hout hlat
    go_simp
    exact hK _ _ (hJ.plain (by rw [hls]; decide) hFst (by decide) (Ex.refl _) (by rw [hT]; rfl) nh)
   ·have q5 := hout 5 ob
    exact wp_mw _ rfl q5 (hK _ _ (hJ.plain (by rw [hls]; decide) hFst (by decide) (Ex.refl _) (by rw [hT]; rfl) nh))
   ·have q3 := hout 3 ob
    have hcut : listed.getD 8 false = false := by
     cases hc : listed.getD 8 false with
     | false => rfl
     | true =>
      have hc0 := hJ.ord (8, 5) (by simp) hc
      exact absurd hc0 (by rw [hun]; decide)
    have hpre := hJ.pre hcut
    exact ld_v (.tmp 3) g x rfl q3 (A0.out.ext hpre) (hK _ _ (hJ.plain (by rw [hls]; decide) hFst (by decide) (Ex.refl _) (by rw [hT]; rfl) nh))
   ·have q23 := hJ.iw hT (hdep ⟨5, .data⟩ (by simp) rfl) rfl rfl _ rfl _ rfl
    have hcut : listed.getD 8 false = false := by
     cases hc : listed.getD 8 false with
     | false => rfl
     | true =>
      have hc0 := hJ.ord (8, 6) (by simp) hc
      exact absurd hc0 (by rw [hun]; decide)
    have hpre := hJ.pre hcut
    rw [gd9] at q23
    have XV := HXI.out.ext hpre
    have XL := Vc.rsec HBR.out.symm
    clear hsz hdep hout hlat
    go_simp
    refine (ownv_any x (Nat.le_trans XL (by decide)) w4 XV).mono ?_
    rintro e w5 ⟨s9, rfl, hpl, hps, x9⟩
    exact hK _ _ (hJ.plain (by rw [hls]; decide) hFst (by decide) x9 (by rw [hT]; exact ⟨{ x with sec := s9 }, rfl, by unfold Vt.ct; simp only [hpl], (show TVN w5 { x with sec := s9 } from ⟨⟨XV.ok.idN, XV.ok.gen0, XV.ok.gen1, XV.ok.pinN, XV.ok.lim0, XV.ok.lim1, XV.ok.used0, XV.ok.used1, XV.ok.ownN⟩, hps.less (Nat.zero_le _), by rw [hpl]; exact XL⟩)⟩) nh)
   ·have q21 := hJ.iv hT (hdep ⟨3, .data⟩ (by simp) rfl) rfl rfl _ rfl _ rfl
    have q22 := hJ.iv hT (hdep ⟨4, .data⟩ (by simp) rfl) rfl rfl _ rfl _ rfl
    clear hsz hdep hout hlat
    go_simp
    exact hK _ _ (hJ.plain (by rw [hls]; decide) hFst (by decide) (Ex.refl _) (by rw [hT]; rfl) nh)
   have q25 := hJ.iw hT (hdep ⟨7, .data⟩ (by simp) rfl) rfl rfl _ rfl _ rfl
   have dd24 := hdep ⟨6, .data⟩ (by simp) rfl
   have q24 := dd24.2 _ rfl _ rfl
   have h24 := hJ.vals 6 dd24.1 (fun c hc => by have hc : some 8 = some c := hc; cases hc; exact hun)
   rw [hT] at h24
   have h24 : (fun v w9 => ∃ z : Vt, v = z.V ∧ z.ct = x.ct ∧ TVN w9 z) (f 6) w4 := h24
   obtain ⟨z24, e24, c24, n24⟩ := h24
   rw [e24] at q24
   clear dd24
   have hl3 := (hdep ⟨3, .phase⟩ (by simp) rfl).1
   have hl5 := (hdep ⟨5, .phase⟩ (by simp) rfl).1
   have hl6 := (hdep ⟨6, .data⟩ (by simp) rfl).1
   have hord : ∀ x ∈ ([(8, 3), (8, 5), (8, 6)] : List (Nat × Nat)), x.1 = 8 → listed.getD x.2 false = true := (by intro x hx he; simp only [List.mem_cons, List.not_mem_nil, or_false] at hx; rcases hx with rfl | rfl | rfl; all_goals first | (exact absurd he (by decide)) | assumption)
   have hcut := hun
   have hpre := hJ.pre hcut
   have hc1 : ∀ j, j ≠ 8 → ([true, true, true, true, true, true, false, true, true] : List Bool).getD j true = false → listed.getD j false = true → ∃ c, (([none, none, none, none, none, none, some 8, none, none] : List (Option Nat))).getD j none = some c ∧ (c = 8 ∨ listed.getD c false = true) := by
    intro j hj hfj hl
    have hm : j = 6 := by
     rcases Nat.lt_or_ge j 9 with h | h
     ·have hk : j = 0 ∨ j = 1 ∨ j = 2 ∨ j = 3 ∨ j = 4 ∨ j = 5 ∨ j = 6 ∨ j = 7 ∨ j = 8 := by omega
      rcases hk with rfl | rfl | rfl | rfl | rfl | rfl | rfl | rfl | rfl <;> first | (exact absurd hfj (by decide)) | simp
     ·rw [List.getD_eq_getElem?_getD, List.getElem?_eq_none (by simpa using h)] at hfj; cases hfj
    rcases hm with rfl
    ·exact ⟨8, rfl, Or.inl rfl⟩
   refine wp_stp z24.C _ _ gb (p * 42) rfl q25 q24 (HBK.out.ext hpre) (by rw [Vt.len n24.ok]; exact HCL.out) (by rw [Try.sizeVt, Vt.len n24.ok]) z24.ones (fun w5 hd ho => ?_)
   have hfin : ∃ z : Vt, z.ct = x.ct ∧ TB w5 D (.slice (some ⟨gb, 0, none⟩) n cap) (vs.set p z) ∧ Tc D (some gb) w3 w5 := by
    have tb := HTB.out.ext hpre
    have hst := HST.out
    rw [HN.out] at tb hst ⊢
    exact ⟨z24, c24, tb.put HTB.out.len (by rw [← HN.out]; exact hpn) HPF.out c24 n24 HGB.out (HBK.out.ext hpre) hst hd ho, (Ex.tc _ _ hpre).trans (ho.tc (Or.inr rfl)) (Or.inl rfl)⟩
   exact hK _ _ (hJ.mod (by rw [hls]; decide) HFX (by rw [hT]; exact trivial) hc1 (Or.inl rfl) (fun _ => hfin) hord)
  intro listed f w4 hall hJ
  have xf : (fun w9 => ∃ z : Vt, z.ct = x.ct ∧ TB w9 D (.slice (some ⟨gb, 0, none⟩) n cap) (vs.set p z) ∧ Tc D (some gb) w3 w9) w4 := hJ.fin (hall 8 (by simp))
  simp only [putAll, Act.put, List.setIfInBounds_toArray, List.set_cons_zero, List.set_cons_succ, Nat.zero_add, Nat.reduceAdd]
  clear hJ hall hT HFX hFst
  obtain ⟨z, z1, z2, z3⟩ := xf
  have Z2 := Hi z2
  have Z3 := Hi z3
  have Z1 := Hi z1
  clear z1 z2 z3 c0
  go_wp2_with fail
  go_ret
  exact Or.inr ⟨HBR.out.symm, p, by rw [← HN.out]; exact HBI.out, Or.inl ⟨z, by rw [← HN.out]; exact hpn, HPF.out, rfl, Z1.out, Z2.out, (Ex.tc _ _ BW.out).trans Z3.out (Or.inl rfl)⟩⟩
 have HNI : Hid (NotIn vs (idn x.id)) := Hi (by have := of_decide_eq_false HB.out.symm; rw [HN.out] at this; exact this)
 have c0 : w3.cell? ⟨D, 0, none⟩ = some (.slice ad n cap) := HTB.out.blk.cell 0
 by_cases h4 : n = 4
 ·have h4i : (n : Int) = 4 := by omega
  go_wp2_with fail
  go_ret
  exact Or.inr ⟨HBR.out.symm, p, by rw [← HN.out]; exact HBI.out, Or.inr (Or.inl ⟨HNI.out, by rw [← HN.out]; exact h4, rfl, BW.out⟩)⟩
 have h4i : ¬ (n : Int) = 4 := by omega
 go_wp2_with fail
 obtain ⟨T, hT⟩ : ∃ T : List Sx, T = [.is (.pointer (some ⟨D, 0, none⟩)), .is (.pointer (some ⟨D, 0, none⟩)), .is (.pointer (some ⟨D, 0, none⟩)), .is (.pointer (some ⟨D, 0, none⟩)), .is (.slice ad n cap), .is (.int .i64 p), .is (x.V), .of (fun v w9 => ∃ z : Vt, v = z.V ∧ z.ct = x.ct ∧ TVN w9 z) (fun v _ _ h k => by obtain ⟨z, h1, h2, h3⟩ := h; exact ⟨z, h1, h2, h3.ext k⟩), .of (fun v w9 => ∃ (z : Vt) (b : Nat), v = .slice (some ⟨b, 0, none⟩) 1 1 ∧ Bk w9 b 36 z.C.toArray ∧ w3.heap.size ≤ b ∧ z.ct = x.ct ∧ TVN w9 z) (fun v _ _ h k => by obtain ⟨z, b, h1, h2, h3, h4, h5⟩ := h; exact ⟨z, b, h1, h2.ext k, h3, h4, h5.ext k⟩), .of (fun v w9 => ∃ z : Vt, z.ct = x.ct ∧ TVN w9 z ∧ w9.ownsRow (D + 1) 36 42 v (n + 1) ((vs.flatMap Vt.C).take (p * 42) ++ z.C ++ (vs.flatMap Vt.C).drop (p * 42)) ∧ w3.grownBy w9 (Value.ownBlock (.slice ad n cap)) ∧ Lies w3 (.slice ad n cap) v) (fun v _ _ h k => by obtain ⟨z, h1, h2, h3, h4, h5⟩ := h; exact ⟨z, h1, h2.ext k, k.row h3, grownBy_ex h4 k, h5⟩), .is (.pointer (some ⟨D, 0, none⟩)), .is (.pointer (some ⟨D, 0, none⟩)), .any] := ⟨_, rfl⟩
 have HFX : T.map Sx.fixed = [true, true, true, true, true, true, true, false, false, false, true, true, true] := by rw [hT]; rfl
 have hFst : ∀ w w', (fun w9 => ∃ (z : Vt) (rv2 : Value), z.ct = x.ct ∧ TB w9 D rv2 (vs.take p ++ z :: vs.drop p) ∧ Tc D (Value.ownBlock (.slice ad n cap)) w3 w9 ∧ Lies w3 (.slice ad n cap) rv2) w → Ex w w' → (fun w9 => ∃ (z : Vt) (rv2 : Value), z.ct = x.ct ∧ TB w9 D rv2 (vs.take p ++ z :: vs.drop p) ∧ Tc D (Value.ownBlock (.slice ad n cap)) w3 w9 ∧ Lies w3 (.slice ad n cap) rv2) w' := fun _ _ h k => by obtain ⟨z, rv2, h1, h2, h3, h4⟩ := h; exact ⟨z, rv2, h1, h2.ext k, h3.trans (Ex.tc _ _ k) (Or.inl rfl), h4⟩
 refine wp_region_gen (JE w3 T ([none, none, none, none, none, none, none, some 8, some 9, some 12, none, none, none] : List (Option Nat)) ([(9, 4), (9, 7), (7, 6), (9, 8), (12, 9)] : List (Nat × Nat)) 9 12 (fun w9 => ∃ (z : Vt) (rv2 : Value), z.ct = x.ct ∧ TB w9 D rv2 (vs.take p ++ z :: vs.drop p) ∧ Tc D (Value.ownBlock (.slice ad n cap)) w3 w9 ∧ Lies w3 (.slice ad n cap) rv2)) (by kernel_rfl) (by kernel_rfl) (by kernel_rfl) (fitB_spec (by kernel_rfl)) (fun listed f h => JE.start listed f h) ?_ ?_
 ·intro i o ho
  have hi : i < 13 := (Array.getElem?_eq_some_iff.1 ho).1
  have hi' : i = 0 ∨ i = 1 ∨ i = 2 ∨ i = 3 ∨ i = 4 ∨ i = 5 ∨ i = 6 ∨ i = 7 ∨ i = 8 ∨ i = 9 ∨ i = 10 ∨ i = 11 ∨ i = 12 := by omega
  clear hi
  rcases hi' with rfl | rfl | rfl | rfl | rfl | rfl | rfl | rfl | rfl | rfl | rfl | rfl | rfl
  all_goals (simp only [List.getElem?_toArray, List.getElem?_cons_zero, List.getElem?_cons_succ, Option.some.injEq] at ho; subst ho; intro listed f a w4 hJ hsz hls hun hdep hout hlat; first | (rw [if_pos (by rfl)]; intro K hK) | skip)
  ·have q0 := hout 0 ob
   exact wp_mw _ rfl q0 (hK _ _ (hJ.plain (by rw [hls]; decide) hFst (by decide) (Ex.refl _) (by rw [hT]; rfl) nh))
  ·have q0 := hout 0 ob
   exact wp_mw _ rfl q0 (hK _ _ (hJ.plain (by rw [hls]; decide) hFst (by decide) (Ex.refl _) (by rw [hT]; rfl) nh))
  ·have q33 := hJ.iv hT (hdep ⟨1, .data⟩ (by simp) rfl) rfl rfl _ rfl _ rfl
   clear hsz hdep hout hlat
   go_simp
   exact hK _ _ (hJ.plain (by rw [hls]; decide) hFst (by decide) (Ex.refl _) (by rw [hT]; rfl) nh)
  ·have q34 := hJ.iv hT (hdep ⟨2, .data⟩ (by simp) rfl) rfl rfl _ rfl _ rfl
   clear hsz hdep hout hlat
   go_simp
   exact hK _ _ (hJ.plain (by rw [hls]; decide) hFst (by decide) (Ex.refl _) (by rw [hT]; rfl) nh)
  ·have q35 := hJ.iw hT (hdep ⟨3, .data⟩ (by simp) rfl) rfl rfl _ rfl _ rfl
   have hcut : listed.getD 9 false = false := by
    cases hc : listed.getD 9 false with
    | false => rfl
    | true =>
     have hc0 := hJ.ord (9, 4) (by simp) hc
     exact absurd hc0 (by rw [hun]; decide)
   have hpre := hJ.pre hcut
   have c1 : w4.cell? ⟨D, 0, none⟩ = some (.slice ad n cap) := (HTB.out.ext hpre).blk.cell 0
   rw [gd9] at q35
   clear hsz hdep hout hlat
   go_simp
   exact hK _ _ (hJ.plain (by rw [hls]; decide) hFst (by decide) (Ex.refl _) (by rw [hT]; rfl) nh)
  ·have q5 := hout 5 ob
   exact wp_mw _ rfl q5 (hK _ _ (hJ.plain (by rw [hls]; decide) hFst (by decide) (Ex.refl _) (by rw [hT]; rfl) nh))
  ·have q3 := hout 3 ob
   have hcut : listed.getD 9 false = false := by
    cases hc : listed.getD 9 false with
    | false => rfl
    | true =>
     have hc0 := hJ.ord (9, 7) (by simp) hc
     have hc1 := hJ.ord (7, 6) (by simp) hc0
     exact absurd hc1 (by rw [hun]; decide)
   have hpre := hJ.pre hcut
   exact ld_v (.tmp 3) g x rfl q3 (A0.out.ext hpre) (hK _ _ (hJ.plain (by rw [hls]; decide) hFst (by decide) (Ex.refl _) (by rw [hT]; rfl) nh))
  ·have q38 := hJ.iw hT (hdep ⟨6, .data⟩ (by simp) rfl) rfl rfl _ rfl _ rfl
   have hl6 := (hdep ⟨6, .data⟩ (by simp) rfl).1
   have hord : ∀ x ∈ ([(9, 4), (9, 7), (7, 6), (9, 8), (12, 9)] : List (Nat × Nat)), x.1 = 7 → listed.getD x.2 false = true := (by intro x hx he; simp only [List.mem_cons, List.not_mem_nil, or_false] at hx; rcases hx with rfl | rfl | rfl | rfl | rfl; all_goals first | (exact absurd he (by decide)) | assumption)
   have hcut : listed.getD 9 false = false := by
    cases hc : listed.getD 9 false with
    | false => rfl
    | true =>
     have hc0 := hJ.ord (9, 7) (by simp) hc
     exact absurd hc0 (by rw [hun]; decide)
   have hpre := hJ.pre hcut
   rw [gd9] at q38
   have XV := HXI.out.ext hpre
   have XL := Vc.rsec HBR.out.symm
   clear hsz hdep hout hlat
   go_simp
   refine (ownv_any x (Nat.le_trans XL (by decide)) w4 XV).mono ?_
   rintro e w5 ⟨s9, rfl, hpl, hps, x9⟩
   exact hK _ _ (hJ.plain (by rw [hls]; decide) hFst (by decide) x9 (by rw [hT]; exact ⟨{ x with sec := s9 }, rfl, by unfold Vt.ct; simp only [hpl], (show TVN w5 { x with sec := s9 } from ⟨⟨XV.ok.idN, XV.ok.gen0, XV.ok.gen1, XV.ok.pinN, XV.ok.lim0, XV.ok.lim1, XV.ok.used0, XV.ok.used1, XV.ok.ownN⟩, hps.less (Nat.zero_le _), by rw [hpl]; exact XL⟩)⟩) hord)
  ·have dd39 := hdep ⟨7, .data⟩ (by simp) rfl
   have q39 := dd39.2 _ rfl _ rfl
   have h39 := hJ.vals 7 dd39.1 (fun c hc => by have hc : some 8 = some c := hc; cases hc; exact hun)
   rw [hT] at h39
   have h39 : (fun v w9 => ∃ z : Vt, v = z.V ∧ z.ct = x.ct ∧ TVN w9 z) (f 7) w4 := h39
   obtain ⟨z39, e39, c39, n39⟩ := h39
   rw [e39] at q39
   clear dd39
   have hcut : listed.getD 9 false = false := by
    cases hc : listed.getD 9 false with
    | false => rfl
    | true =>
     have hc0 := hJ.ord (9, 8) (by simp) hc
     exact absurd hc0 (by rw [hun]; decide)
   have hpre := hJ.pre hcut
   clear hsz hdep hout hlat
   refine wp_bsv (.tmp 39) z39 n39.ok rfl q39 (hK _ _ (hJ.plain (by rw [hls]; decide) hFst (by decide) (Ex.alloc _ _) (by rw [hT]; exact ⟨z39, w4.heap.size, rfl, Bk.new rfl _ _, hpre.sz', c39, n39.ext (Ex.alloc _ _)⟩) nh))
  ·have q36 := hJ.iw hT (hdep ⟨4, .data⟩ (by simp) rfl) rfl rfl _ rfl _ rfl
   have q37 := hJ.iw hT (hdep ⟨5, .data⟩ (by simp) rfl) rfl rfl _ rfl _ rfl
   have dd40 := hdep ⟨8, .data⟩ (by simp) rfl
   have q40 := dd40.2 _ rfl _ rfl
   have h40 := hJ.vals 8 dd40.1 (fun c hc => by have hc : some 9 = some c := hc; cases hc; exact hun)
   rw [hT] at h40
   have h40 : (fun v w9 => ∃ (z : Vt) (b : Nat), v = .slice (some ⟨b, 0, none⟩) 1 1 ∧ Bk w9 b 36 z.C.toArray ∧ w3.heap.size ≤ b ∧ z.ct = x.ct ∧ TVN w9 z) (f 8) w4 := h40
   obtain ⟨z40, g40, e40, b40, l40, c40, n40⟩ := h40
   rw [e40] at q40
   clear dd40
   have hl4 := (hdep ⟨4, .data⟩ (by simp) rfl).1
   have hl7 := (hdep ⟨7, .chain⟩ (by simp) rfl).1
   have hl8 := (hdep ⟨8, .data⟩ (by simp) rfl).1
   have hord : ∀ x ∈ ([(9, 4), (9, 7), (7, 6), (9, 8), (12, 9)] : List (Nat × Nat)), x.1 = 9 → listed.getD x.2 false = true := (by intro x hx he; simp only [List.mem_cons, List.not_mem_nil, or_false] at hx; rcases hx with rfl | rfl | rfl | rfl | rfl; all_goals first | (exact absurd he (by decide)) | assumption)
   have hcut := hun
   have hpre := hJ.pre hcut
   have hc1 : ∀ j, j ≠ 9 → ([true, true, true, true, true, true, true, false, false, false, true, true, true] : List Bool).getD j true = false → listed.getD j false = true → ∃ c, (([none, none, none, none, none, none, none, some 8, some 9, some 12, none, none, none] : List (Option Nat))).getD j none = some c ∧ (c = 9 ∨ listed.getD c false = true) := by
    intro j hj hfj hl
    have hm : j = 7 ∨ j = 8 ∨ j = 9 := by
     rcases Nat.lt_or_ge j 13 with h | h
     ·have hk : j = 0 ∨ j = 1 ∨ j = 2 ∨ j = 3 ∨ j = 4 ∨ j = 5 ∨ j = 6 ∨ j = 7 ∨ j = 8 ∨ j = 9 ∨ j = 10 ∨ j = 11 ∨ j = 12 := by omega
      rcases hk with rfl | rfl | rfl | rfl | rfl | rfl | rfl | rfl | rfl | rfl | rfl | rfl | rfl <;> first | (exact absurd hfj (by decide)) | simp
     ·rw [List.getD_eq_getElem?_getD, List.getElem?_eq_none (by simpa using h)] at hfj; cases hfj
    rcases hm with rfl | rfl | rfl
    ·exact ⟨8, rfl, Or.inr (hdep ⟨8, .data⟩ (by simp) rfl).1⟩
    ·exact ⟨9, rfl, Or.inl rfl⟩
    ·exact absurd rfl hj
   have hl12 : (listed.setIfInBounds 9 true).getD 12 false = true → False := fun hl => by
    rw [bit_set (by decide)] at hl
    have := hJ.ord (12, 9) (by simp) hl
    rw [hun] at this; cases this
   rw [gd9] at q36 q37 q40
   obtain ⟨zz, hzz⟩ : ∃ z, z = z40 := ⟨_, rfl⟩
   rw [← hzz] at b40 c40 n40
   have czz := c40
   have nz := n40
   have bz := b40
   have lz := l40
   clear hzz b40 c40 n40 l40
   have tb := HTB.out.ext hpre
   have CI := ins_any (D + 1) n p (.slice ad n cap) (vs.flatMap Vt.C) zz.C g40 w4 HBI.out.1 (by omega) (by have := tb.row.row; rw [← HN.out] at this; exact this) (by have := tb.blk.lt; omega) (vflat_one vs) zz.C_one (Vt.len nz.ok) bz (fun e => by rcases HTB.out.row.blk with h | ⟨g9, h, _, h3, _⟩ <;> rw [h] at e <;> cases e <;> omega)
   clear hsz hout hlat
   go_simp
   refine CI.mono ?_
   rintro e w5 ⟨v9, rfl, r1, r2, r3⟩
   have kt : Kt [36] (D + 1) w4 w5 := Kt.grown tb.row.row r2 tb.blk.lt
   exact hK _ _ (hJ.mod (by rw [hls]; decide) HFX (by rw [hT]; exact ⟨zz, czz, nz.kt kt (by decide), r1, ex_grownBy hpre r2, r3.ex hpre⟩) hc1 (Or.inl rfl) (fun hl => (hl12 hl).elim) hord)
  ·have q32 := hJ.iv hT (hdep ⟨0, .data⟩ (by simp) rfl) rfl rfl _ rfl _ rfl
   clear hsz hdep hout hlat
   go_simp
   exact hK _ _ (hJ.plain (by rw [hls]; decide) hFst (by decide) (Ex.refl _) (by rw [hT]; rfl) nh)
  ·have q42 := hJ.iv hT (hdep ⟨10, .data⟩ (by simp) rfl) rfl rfl _ rfl _ rfl
   clear hsz hdep hout hlat
   go_simp
   exact hK _ _ (hJ.plain (by rw [hls]; decide) hFst (by decide) (Ex.refl _) (by rw [hT]; rfl) nh)
  have q43 := hJ.iw hT (hdep ⟨11, .data⟩ (by simp) rfl) rfl rfl _ rfl _ rfl
  have dd41 := hdep ⟨9, .data⟩ (by simp) rfl
  have q41 := dd41.2 _ rfl _ rfl
  have h41 := hJ.vals 9 dd41.1 (fun c hc => by have hc : some 12 = some c := hc; cases hc; exact hun)
  rw [hT] at h41
  have h41 : (fun v w9 => ∃ z : Vt, z.ct = x.ct ∧ TVN w9 z ∧ w9.ownsRow (D + 1) 36 42 v (n + 1) ((vs.flatMap Vt.C).take (p * 42) ++ z.C ++ (vs.flatMap Vt.C).drop (p * 42)) ∧ w3.grownBy w9 (Value.ownBlock (.slice ad n cap)) ∧ Lies w3 (.slice ad n cap) v) (f 9) w4 := h41
  obtain ⟨v41, ev41⟩ : ∃ v, v = f 9 := ⟨_, rfl⟩
  rw [← ev41] at h41 q41
  clear ev41
  obtain ⟨z41, c41, n41, o41, g41, l41⟩ := h41
  clear dd41
  have hl9 := (hdep ⟨9, .data⟩ (by simp) rfl).1
  have hord : ∀ x ∈ ([(9, 4), (9, 7), (7, 6), (9, 8), (12, 9)] : List (Nat × Nat)), x.1 = 12 → listed.getD x.2 false = true := (by intro x hx he; simp only [List.mem_cons, List.not_mem_nil, or_false] at hx; rcases hx with rfl | rfl | rfl | rfl | rfl; all_goals first | (exact absurd he (by decide)) | assumption)
  have hc1 : ∀ j, j ≠ 12 → ([true, true, true, true, true, true, true, false, false, false, true, true, true] : List Bool).getD j true = false → listed.getD j false = true → ∃ c, (([none, none, none, none, none, none, none, some 8, some 9, some 12, none, none, none] : List (Option Nat))).getD j none = some c ∧ (c = 12 ∨ listed.getD c false = true) := by
   intro j hj hfj hl
   have hm : j = 7 ∨ j = 8 ∨ j = 9 := by
    rcases Nat.lt_or_ge j 13 with h | h
    ·have hk : j = 0 ∨ j = 1 ∨ j = 2 ∨ j = 3 ∨ j = 4 ∨ j = 5 ∨ j = 6 ∨ j = 7 ∨ j = 8 ∨ j = 9 ∨ j = 10 ∨ j = 11 ∨ j = 12 := by omega
     rcases hk with rfl | rfl | rfl | rfl | rfl | rfl | rfl | rfl | rfl | rfl | rfl | rfl | rfl <;> first | (exact absurd hfj (by decide)) | simp
    ·rw [List.getD_eq_getElem?_getD, List.getElem?_eq_none (by simpa using h)] at hfj; cases hfj
   rcases hm with rfl | rfl | rfl
   ·exact ⟨8, rfl, Or.inr (hdep ⟨8, .phase⟩ (by simp) rfl).1⟩
   ·exact ⟨9, rfl, Or.inr (hdep ⟨9, .data⟩ (by simp) rfl).1⟩
   ·exact ⟨12, rfl, Or.inl rfl⟩
  have hbD : Bk w4 D 169 [.slice ad n cap].toArray := (g41.block D HTB.out.blk.lt (fun e => by rcases HTB.out.row.blk with h | ⟨g9, h, h2, _⟩ <;> rw [h] at e <;> cases e <;> omega)).trans HTB.out.blk
  refine wp_st1 (C := [.slice ad n cap]) _ _ D 0 v41 rfl q43 q41 hbD (by simp) (by kernel_rfl) (slice_one o41) (fun w5 hd ho => ?_)
  have k1 : Kt [36] (D + 1) w3 w4 := Kt.grown HTB.out.row.row g41 HTB.out.blk.lt
  have k2 : Kt [169] 0 w4 w5 := Kt.md ho.md (Nat.zero_le _) hbD (List.mem_singleton.2 rfl)
  have hp4 : p ≤ vs.length := by rw [← HN.out]; exact HBI.out.1
  have hfin : ∃ (z : Vt) (rv2 : Value), z.ct = x.ct ∧ TB w5 D rv2 (vs.take p ++ z :: vs.drop p) ∧ Tc D (Value.ownBlock (.slice ad n cap)) w3 w5 ∧ Lies w3 (.slice ad n cap) rv2 := by
   have hl9 : (vs.take p ++ z41 :: vs.drop p).length = n + 1 := by rw [HN.out]; simp; omega
   refine ⟨z41, v41, c41, ⟨hd, ⟨?_, fun i y hy => ?_⟩, by rw [hl9]; omega, srt_ins hp4 (by rw [ct_id c41]; exact HBI.out.2.1) (fun q h1 h2 => ?_) HTB.out.srt⟩, (grownBy_tc D g41).trans (ho.tc (Or.inl rfl)) (Or.inl rfl), l41⟩
   ·rw [vflat_ins HTB.out.row.oks, hl9]; exact k2.row o41 (by decide)
   ·rcases List.mem_append.1 (List.mem_of_getElem? hy) with hm | hm
    ·exact ((HTB.out.row.mem (List.mem_of_mem_take hm)).kt k1 (by decide)).kt k2 (by decide)
    ·rcases List.mem_cons.1 hm with rfl | hm
     ·exact n41.kt k2 (by decide)
     ·exact ((HTB.out.row.mem (List.mem_of_mem_drop hm)).kt k1 (by decide)).kt k2 (by decide)
   ·rw [ct_id c41]
    have h3 := HBI.out.2.2 q h1 (by rw [HN.out]; exact h2)
    rcases Nat.eq_or_lt_of_le h3 with h4 | h4
    ·exact absurd ⟨q, h2, h4.symm⟩ HNI.out
    ·exact h4
  exact hK _ _ (hJ.mod (by rw [hls]; decide) HFX (by rw [hT]; exact trivial) hc1 (Or.inr (hdep ⟨9, .data⟩ (by simp) rfl).1) (fun _ => hfin) hord)
 intro listed f w4 hall hJ
 have xf : (fun w9 => ∃ (z : Vt) (rv2 : Value), z.ct = x.ct ∧ TB w9 D rv2 (vs.take p ++ z :: vs.drop p) ∧ Tc D (Value.ownBlock (.slice ad n cap)) w3 w9 ∧ Lies w3 (.slice ad n cap) rv2) w4 := hJ.fin (hall 12 (by simp))
 simp only [putAll, Act.put, List.setIfInBounds_toArray, List.set_cons_zero, List.set_cons_succ, Nat.zero_add, Nat.reduceAdd]
 clear hJ hall hT HFX hFst
 obtain ⟨z, rv2, z1, z2, z3, z4⟩ := xf
 have Z2 := Hi z2
 have Z3 := Hi z3
 have Z4 := Hi z4
 have Z1 := Hi z1
 clear z1 z2 z3 z4 c0
 go_wp2_with fail
 go_ret
 exact Or.inr ⟨HBR.out.symm, p, by rw [← HN.out]; exact HBI.out, Or.inr (Or.inr ⟨z, rv2, HNI.out, by rw [← HN.out]; omega, rfl, Z1.out, Z2.out, (Ex.tc _ _ BW.out).trans Z3.out (Or.inl rfl), Z4.out.ex BW.out⟩)⟩
end Go.Proofs.Ytmjfnpmnhehnkaa
namespace Go.Proofs.Ytmjfnpmnhehnkaa
open Go.RowKit
def Djn (v v' : Value) : Prop := ∀ g, v.ownBlock = some g → v'.ownBlock ≠ some g
theorem Djn.symm {v v' : Value} (h : Djn v v') : Djn v' v := fun g h1 h2 => h g h2 h1
theorem TB.D_ne {w : World} {D gb : Nat} {rv : Value} {vs : List Vt} {cs : Array Value} (h : TB w D rv vs) (hb : Bk w gb 36 cs) : D ≠ gb := fun e => by
 subst e
 have h1 := h.blk
 unfold Bk at h1 hb
 rw [h1] at hb; cases hb
theorem TB.other {w w' : World} {D D' : Nat} {rv rv' : Value} {vs vs' : List Vt} (h : TB w D rv vs) (h' : TB w D' rv' vs') (k : Tc D' rv'.ownBlock w w') (hd : D ≠ D') (hr : Djn rv rv') : TB w' D rv vs := by
 have hrow := h'.row.blk
 have keep : ∀ x, TVN w x → TVN w' x := fun x hx => by
  rcases hrow with e | ⟨gb, e, _, _, hb⟩
  ·exact hx.tc (gb := 0) k h'.blk (Or.inl e)
  ·exact hx.tc k h'.blk (Or.inr ⟨e, hb⟩)
 refine ⟨k.bk h.blk hd (fun e => ?_), ⟨⟨h.row.row.1, h.row.row.2.imp id fun ⟨g, cap, cur, hv, hB, hg, hrest⟩ => ⟨g, cap, cur, hv, hB, ?_, hrest⟩⟩, fun i x hx => keep x (h.row.ins i x hx)⟩, h.len, h.srt⟩
 ·rcases hrow with e2 | ⟨gb, e2, _, _, cs, hb⟩
  ·rw [e2] at e; cases e
  rw [e2] at e; cases e
  exact h.D_ne hb rfl
 exact (show Bk w' g 36 cur from k.bk hg (fun e => by subst e; exact h'.D_ne hg rfl) (fun e => hr g (by rw [hv]; rfl) e.symm))
structure TS (w : World) (B n : Nat) (D : Nat → Nat) (r : Nat → Value) (v : Nat → List Vt) : Prop where
 tb : ∀ i, i < n → TB w (D i) (r i) (v i)
 lo : ∀ i, i < n → B ≤ D i
 dd : ∀ i j, i < n → j < n → i ≠ j → D i ≠ D j
 rr : ∀ i j, i < n → j < n → i ≠ j → Djn (r i) (r j)
theorem TS.ext {w w' : World} {B n : Nat} {D : Nat → Nat} {r : Nat → Value} {v : Nat → List Vt} (h : TS w B n D r v) (k : Ex w w') : TS w' B n D r v := ⟨fun i hi => (h.tb i hi).ext k, h.lo, h.dd, h.rr⟩
def updF {α : Type} (f : Nat → α) (k : Nat) (x : α) : Nat → α := fun i => if i = k then x else f i
theorem updF_same {α : Type} (f : Nat → α) (k : Nat) (x : α) : updF f k x k = x := if_pos rfl
theorem updF_ne {α : Type} (f : Nat → α) {k i : Nat} (x : α) (h : i ≠ k) : updF f k x i = f i := if_neg h
theorem TS.turn {w w' : World} {B n k : Nat} {D : Nat → Nat} {r : Nat → Value} {v : Nat → List Vt} {rv' : Value} {vs' : List Vt} (h : TS w B n D r v) (hk : k < n) (ht : TB w' (D k) rv' vs') (htc : Tc (D k) (r k).ownBlock w w') (hl : Lies w (r k) rv') :
  TS w' B n D (updF r k rv') (updF v k vs') := by
 refine ⟨fun i hi => ?_, h.lo, h.dd, fun i j hi hj hij => ?_⟩
 ·by_cases e : i = k
  ·subst e; rw [updF_same, updF_same]; exact ht
  rw [updF_ne _ _ e, updF_ne _ _ e]
  exact (h.tb i hi).other (h.tb k hk) htc (h.dd i k hi hk e) (h.rr i k hi hk e)
 have fresh : ∀ i, i < n → i ≠ k → Djn (r i) rv' := fun i hi e g hg he => by
  rcases hl with h1 | h1
  ·exact h.rr i k hi hk e g hg (h1 ▸ he)
  ·have h2 := h1 g he
   have h3 := (h.tb i hi).row.row.lt g hg
   omega
 by_cases e : i = k
 ·subst e
  rw [updF_same, updF_ne _ _ (fun e => hij e.symm)]
  exact (fresh j hj (fun e => hij e.symm)).symm
 rw [updF_ne _ _ e]
 by_cases e2 : j = k
 ·subst e2; rw [updF_same]; exact fresh i hi e
 rw [updF_ne _ _ e2]; exact h.rr i j hi hj hij
theorem Md.tc {w w' : World} {D : Nat} {r : Option Nat} (h : Md D w w') : Tc D r w w' := by
 have hb := h.below 0 (Nat.zero_le _) w (Below.refl 0 w)
 exact ⟨hb.os, hb.tape, hb.output, h.size, fun k hk h1 _ => h.other k h1 hk⟩
theorem TS.fill {w w' : World} {B n k : Nat} {D : Nat → Nat} {r : Nat → Value} {v : Nat → List Vt} {rv' : Value} {vs' : List Vt} (h : TS w B n D r v) (hk : k < n) (ht : TB w' (D k) rv' vs') (hm : Md (D k) w w') (hf : ∀ g, rv'.ownBlock = some g → w.heap.size ≤ g) :
  TS w' B n D (updF r k rv') (updF v k vs') := h.turn hk ht hm.tc (Or.inr hf)
end Go.Proofs.Ytmjfnpmnhehnkaa
