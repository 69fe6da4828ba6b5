/- Da -/
import Derived.Test.YtopamplmpfndlaaEbq
import Derived.Test.YtopamplmpfndlaaEbr
set_option maxRecDepth 100000
set_option maxHeartbeats 16000000
namespace Go.Proofs.Ytopamplmpfndlaa.Cl
open Go.RowKit
theorem uncL_len (kl : List UInt8) (to : UInt8) (b : List UInt8) : (Sm.uncL kl to b).1.length ≤ 8192 := by
 unfold Sm.uncL
 split
 ·exact Nat.zero_le _
 rename_i h
 split
 ·exact Nat.zero_le _
 rename_i h2
 split
 ·exact Nat.zero_le _
 rename_i t ht
 revert ht
 unfold Sm.openL
 split
 ·intro h; cases h
 split
 ·intro h
  injection h with h
  show t.length ≤ 8192
  rw [← h, Sm.hidL_len, Sm.strm_len, List.length_drop]; omega
 intro h; cases h
def openF (n : Int) (k : List UInt8) (N : Nat) (L : List UInt8) : Rc × Int :=
 if L.length < 8 then (zeroRc, 12)
 else if N ≤ Sm.beV (L.take 8) then (zeroRc, 22)
 else if ¬ (Sm.uncL (keyL n (Sm.beV (L.take 8)) k) (Sm.by8 (128 + n)) L).2 = 0 then (zeroRc, (Sm.uncL (keyL n (Sm.beV (L.take 8)) k) (Sm.by8 (128 + n)) L).2)
 else if ¬ (toRep (Sm.uncL (keyL n (Sm.beV (L.take 8)) k) (Sm.by8 (128 + n)) L).1).2 = 0 then (zeroRc, 12)
 else if (toRep (Sm.uncL (keyL n (Sm.beV (L.take 8)) k) (Sm.by8 (128 + n)) L).1).1.client = n ∧ (toRep (Sm.uncL (keyL n (Sm.beV (L.take 8)) k) (Sm.by8 (128 + n)) L).1).1.num = (Sm.beV (L.take 8) : Int) then ((toRep (Sm.uncL (keyL n (Sm.beV (L.take 8)) k) (Sm.by8 (128 + n)) L).1).1, 0)
 else (zeroRc, 12)
theorem openF_by {n : Int} {k : List UInt8} {N : Nat} {L : List UInt8} (h8 : ¬ L.length < 8) {m : Nat} (hm : m = Sm.beV (L.take 8)) {U : List UInt8 × Int} (hU : U = Sm.uncL (keyL n m k) (Sm.by8 (128 + n)) L) {R : Rc × Int} (hR : R = toRep U.1) :
  openF n k N L = if N ≤ m then (zeroRc, 22) else if ¬ U.2 = 0 then (zeroRc, U.2) else if ¬ R.2 = 0 then (zeroRc, 12) else if R.1.client = n ∧ R.1.num = (m : Int) then (R.1, 0) else (zeroRc, 12) := by
 subst hR
 subst hU
 subst hm
 unfold openF
 rw [if_neg h8]
def ReTup (R : Rc × Int) (e : Ending) (w' : World) : Prop := ∃ y : Rt, e = .returned (.tuple #[y.V, .int .i64 R.2]) ∧ (y.Ok ∧ PN w' 0 y.sec) ∧ y.ct = R.1
def OpPost (B C : Nat) (n : Int) (k : List UInt8) (rv : Value) (got : List Bool) (N : Nat) (R : Rc × Int) (w : World) (e : Ending) (w' : World) : Prop :=
 ReTup R e w' ∧ (R.2 ≠ 0 → Ex w w') ∧ (R.2 = 0 → CI w' B C n k rv (got.set N true) ∧ Tc C rv.ownBlock w w')
def ROpPost (B C : Nat) (n : Int) (k : List UInt8) (rv : Value) (got : List Bool) (N : Nat) (R : Rc × Int) (w : World) (e : Ending) (w' : World) : Prop :=
 ReTup R e w' ∧ (R.2 ≠ 0 → Ex w w') ∧ (R.2 = 0 → DI w' B C n k rv (got.set N true) ∧ Tc C rv.ownBlock w w')
def Inn (w : World) (v : Value) (L : List UInt8) : Prop := ∃ r : Pt, v = r.V ∧ r.l = L ∧ r.In w w.heap.size
theorem Inn.ext {w w' : World} {v : Value} {L : List UInt8} (h : Inn w v L) (x : Ex w w') : Inn w' v L := by
 obtain ⟨r, a, b, c⟩ := h
 exact ⟨r, a, b, c.ext x⟩
def InTup (L : List UInt8) (E : Int) (w : World) (e : Ending) (w' : World) : Prop := ∃ v, e = .returned (.tuple #[v, .int .i64 E]) ∧ Inn w' v L ∧ Ex w w'
theorem tup_in {L : List UInt8} {E : Int} {w : World} {e : Ending} {w' : World} (h : Sm.TupPost L E w e w') : InTup L E w e w' := by
 obtain ⟨r, a, b, c, d⟩ := h
 exact ⟨r.V, a, ⟨ofSm r, rfl, b, ofSm_in c⟩, d⟩
theorem eopen9_any (kl : List UInt8) (hk : kl.length = 16) (to : Int) (t0 : 0 ≤ to) (t1 : to < 256) (p : Pt) (V : Value) (hV : p.V = V) (w : World) (hp : p.In w w.heap.size) (hm : p.l.length ≤ 9223372036854775807) :
  Calls Try.prog 62 #[digV kl, .int .u8 to, V] w (InTup (Sm.uncL kl (Sm.by8 to) p.l).1 (Sm.uncL kl (Sm.by8 to) p.l).2 w) := by
 have h := Sm.eopen_any kl hk (Sm.by8 to) (toSm p) w (in_sm hp) hm
 rw [by8_small t0 t1] at h
 rw [← hV]
 exact h.mono fun e w' h => tup_in h
theorem runc9_any (kl : List UInt8) (hk : kl.length = 16) (to : Int) (t0 : 0 ≤ to) (t1 : to < 256) (p : Pt) (V : Value) (hV : p.V = V) (w : World) (hp : p.In w w.heap.size) (hm : p.l.length ≤ 9223372036854775807) :
  Calls Try.prog 78 #[digV kl, .int .u8 to, V] w (InTup (Sm.uncL kl (Sm.by8 to) p.l).1 (Sm.uncL kl (Sm.by8 to) p.l).2 w) := by
 have h := Sm.runc_any kl hk (Sm.by8 to) (toSm p) w (in_sm hp) hm
 rw [by8_small t0 t1] at h
 rw [← hV]
 exact h.mono fun e w' h => tup_in h
theorem rseed9_any (p : Pt) (hl : 8 ≤ p.l.length) (V : Value) (hV : p.V = V) (w : World) (hp : p.In w w.heap.size) :
  Calls Try.prog 28 #[V] w fun e w' => e = .returned (.int .u64 (Sm.beV (p.l.take 8) : Int)) ∧ w = w' := by
 rw [← hV]
 exact Sm.rseed_any (toSm p) hl w (in_sm hp)
theorem of9_any (p : Pt) (hl : 8 ≤ p.l.length) (w : World) (hp : p.In w w.heap.size) :
  Calls Try.prog 61 #[.slice p.ad 8 p.cap] w fun e w' => e = .returned (.int .u64 (Sm.beV (p.l.take 8) : Int)) ∧ w = w' := by
 have hlen : (p.l.take 8).length = 8 := by rw [List.length_take]; omega
 have h := of_any ⟨p.ad, p.cap, p.l.take 8⟩ 8 hlen (Nat.le_refl _) w (take_in hp hl)
 have e : (Pt.mk p.ad p.cap (p.l.take 8)).V = .slice p.ad 8 p.cap := by
  show Value.slice p.ad (p.l.take 8).length p.cap = _
  rw [hlen]
 rw [e] at h
 exact h
def LO (ic it ix io : Nat) (base : World) (L : List UInt8) (E : Int) (l : Array Bool) (f : Nat → Value) (W : World) : Prop :=
 Ex base W ∧ (l.getD ic false = true → ∃ v : Value, f ic = .tuple #[v, .int .i64 E] ∧ Inn W v L ∧ (l.getD it false = true → f it = f ic) ∧ (l.getD ix false = true → f ix = v) ∧ (l.getD io false = true → f io = v))
section
variable {ic it ix io : Nat} {base : World} {L : List UInt8} {E : Int} {l : Array Bool} {f : Nat → Value} {W W' : World}
theorem LO.start (h0 : ∀ i, l.getD i false = false) (x : Ex base W) : LO ic it ix io base L E l f W := ⟨x, fun e => absurd e (by rw [h0]; decide)⟩
theorem LO.step (h : LO ic it ix io base L E l f W) {i : Nat} {v : Value} (hc : i ≠ ic) (ht : i ≠ it) (hx : i ≠ ix) (ho : i ≠ io) (x : Ex W W') : LO ic it ix io base L E (l.setIfInBounds i true) (upd f i v) W' := by
 unfold LO
 rw [gset hc, gset ht, gset hx, gset ho, upd_ne _ _ (Ne.symm hc), upd_ne _ _ (Ne.symm ht), upd_ne _ _ (Ne.symm hx), upd_ne _ _ (Ne.symm ho)]
 refine ⟨h.1.trans x, fun e => ?_⟩
 obtain ⟨v, a, b, d⟩ := h.2 e
 exact ⟨v, a, b.ext x, d⟩
theorem LO.call (h : LO ic it ix io base L E l f W) (ht : ic ≠ it) (hx : ic ≠ ix) (ho : ic ≠ io) (nt : l.getD it false = false) (nx : l.getD ix false = false) (no : l.getD io false = false) (x : Ex W W') {v : Value} (hv : Inn W' v L) :
  LO ic it ix io base L E (l.setIfInBounds ic true) (upd f ic (.tuple #[v, .int .i64 E])) W' := by
 unfold LO
 rw [gset ht, gset hx, gset ho, upd_same, nt, nx, no]
 exact ⟨h.1.trans x, fun _ => ⟨v, rfl, hv, fun e => (by cases e), fun e => (by cases e), fun e => (by cases e)⟩⟩
theorem LO.tup (h : LO ic it ix io base L E l f W) (hc : it ≠ ic) (hx : it ≠ ix) (ho : it ≠ io) : LO ic it ix io base L E (l.setIfInBounds it true) (upd f it (f ic)) W := by
 unfold LO
 rw [gset hc, gset hx, gset ho, upd_same, upd_ne _ _ (Ne.symm hc), upd_ne _ _ (Ne.symm hx), upd_ne _ _ (Ne.symm ho)]
 refine ⟨h.1, fun e => ?_⟩
 obtain ⟨v, a, b, d, k⟩ := h.2 e
 exact ⟨v, a, b, fun _ => rfl, k⟩
theorem LO.ext (h : LO ic it ix io base L E l f W) (hc : ix ≠ ic) (ht : ix ≠ it) (ho : ix ≠ io) (lt : l.getD it false = true) {z : Value} (hz : f it = .tuple #[z, .int .i64 E]) : LO ic it ix io base L E (l.setIfInBounds ix true) (upd f ix z) W := by
 unfold LO
 rw [gset hc, gset ht, gset ho, upd_same, upd_ne _ _ (Ne.symm hc), upd_ne _ _ (Ne.symm ht), upd_ne _ _ (Ne.symm ho)]
 refine ⟨h.1, fun e => ?_⟩
 obtain ⟨v, a, b, d, k, m⟩ := h.2 e
 refine ⟨v, a, b, d, fun _ => ?_, m⟩
 have q := d lt
 rw [a, hz] at q
 injection q with q
 have q := congrArg (fun (r : Array Value) => r[0]?) q
 simpa using q
theorem LO.put (h : LO ic it ix io base L E l f W) (hc : io ≠ ic) (ht : io ≠ it) (hx : io ≠ ix) (lx : l.getD ix false = true) : LO ic it ix io base L E (l.setIfInBounds io true) (upd f io (f ix)) W := by
 unfold LO
 rw [gset hc, gset ht, gset hx, upd_same, upd_ne _ _ (Ne.symm hc), upd_ne _ _ (Ne.symm ht), upd_ne _ _ (Ne.symm hx)]
 refine ⟨h.1, fun e => ?_⟩
 obtain ⟨v, a, b, d, k, m⟩ := h.2 e
 exact ⟨v, a, b, d, k, fun _ => k lx⟩
end
theorem got_store {w w' : World} {B g : Nat} {v : Value} {got : List Bool} {N : Nat} (hN : N < got.length) (h : ownB w B v got) : ∃ (g cap : Nat) (C : List Value), v = .slice (some ⟨g, 0, none⟩) got.length cap ∧ B ≤ g ∧ Bk w g 4 C.toArray ∧ N < C.length ∧ got.length ≤ cap ∧
  ∀ w', Bk w' g 4 (C.set N (.bool true)).toArray → ownB w' B v (got.set N true) := by
 obtain ⟨g, cap, C, h1, h2, h3, h4, h5, h6⟩ := own_store h N hN
 refine ⟨g, cap, C, h1, h2, h3, by omega, h5, fun w' hb => ?_⟩
 have e : C.take (N * 1) ++ [Value.bool true] ++ C.drop (N * 1 + [Value.bool true].length) = C.set N (.bool true) := by
  rw [List.set_eq_take_append_cons_drop, if_pos (by omega)]
  simp
 have h7 := h6 [.bool true] rfl w' (by rw [e]; exact hb)
 have e2 : (got.map Value.bool).take (N * 1) ++ [Value.bool true] ++ (got.map Value.bool).drop (N * 1 + [Value.bool true].length) = (got.set N true).map Value.bool := by
  rw [List.set_eq_take_append_cons_drop, if_pos hN]
  simp [List.map_take, List.map_drop]
 unfold ownB
 rw [List.length_set, ← e2]
 exact h7
section
variable {o : Oper} {a : Act} {w : World} {K : Act → World → Prop} {Q : Exit → Act → World → Prop}
theorem st_got (x y : Operand) {B : Nat} {v : Value} {got : List Bool} (N : Nat) (g : Nat) (ho : o.op = .store 4 x y) (hv : v.ownBlock = some g) (hN : N < got.length) (h : ownB w B v got) (ha : a.eval x = .pointer (some ⟨g, N, none⟩)) (hy : a.eval y = .bool true)
  (hk : ∀ w', ownB w' B v (got.set N true) → Only g w w' → K (a.put o.dst undef) w') : o.wp Try.prog a w K Q := by
 obtain ⟨g', cap, C, h1, h2, h3, h4, h5, h6⟩ := got_store (w' := w) (g := 0) hN h
 obtain rfl : g' = g := by
  rw [h1] at hv
  simpa [Value.ownBlock] using hv
 exact wp_st1 x y g' N (.bool true) ho ha hy h3 h4 (by kernel_rfl) rfl (fun w' b1 b2 => hk w' (h6 w' b1) b2)
end
theorem Ex.pn {w w' : World} {B : Nat} {p : Pt} (h : PN w B p) (k : Ex w w') : PN w' B p := h.ext k
theorem toRep_12 {L : List UInt8} (h : ¬ (toRep L).2 = 0) : (toRep L).2 = 12 := by
 revert h
 unfold toRep
 split
 ·intro h; exact absurd rfl h
 intro _; rfl
theorem open9_any (B C : Nat) (n : Int) (k : List UInt8) (rv : Value) (got : List Bool) (p : Pt) (w : World) (hc : CI w B C n k rv got) (hp : p.In w w.heap.size) (hbig : p.l.length ≤ 9223372036854775807) : Calls Try.prog 23 #[.pointer (some ⟨C, 0, none⟩), p.V] w (OpPost B C n k rv got (Sm.beV (p.l.take 8)) (openF n k got.length p.l) w) := by
 obtain ⟨m, hm⟩ : ∃ m, m = p.l.length := ⟨_, rfl⟩
 obtain ⟨RF, hRF⟩ : ∃ R, R = openF n k got.length p.l := ⟨_, rfl⟩
 obtain ⟨m9, h9⟩ : ∃ x, x = Sm.beV (p.l.take 8) := ⟨_, rfl⟩
 obtain ⟨K9, hK9⟩ : ∃ x, x = keyL n m9 k := ⟨_, rfl⟩
 obtain ⟨U, hU⟩ : ∃ x, x = Sm.uncL K9 (Sm.by8 (128 + n)) p.l := ⟨_, rfl⟩
 obtain ⟨R2, hR2⟩ : ∃ x, x = toRep U.1 := ⟨_, rfl⟩
 have RB8 := Hi (fun (h8 : ¬ p.l.length < 8) => openF_by (n := n) (k := k) (N := got.length) (L := p.l) h8 h9 (U := U) (by rw [hU, hK9]) hR2)
 have KN : Hid (K9.length = 16) := Hi (by rw [hK9]; exact keyL_len _ _ _)
 have UL : Hid (U.1.length ≤ 8192) := Hi (by rw [hU]; exact uncL_len _ _ _)
 have R2E := Hi hR2
 have UE := Hi hU
 have K9E := Hi hK9
 have M9 := Hi h9
 have HRF := Hi hRF
 have CW := Hi hc
 have HP := Hi hp
 have HB := Hi hbig
 have R8 : Hid (p.l.length < 8 → RF = (zeroRc, 12)) := Hi (fun h => by rw [hRF]; unfold openF; rw [if_pos h])
 have Y0 : Hid (RB (w.alloc (.cells zeroRt.C.toArray 29)) w.heap.size zeroRt) := Hi ⟨zeroRt_ok, Bk.new rfl _ _⟩
 have BW : Hid (Ex w (w.alloc (.cells zeroRt.C.toArray 29))) := Hi (Ex.alloc _ _)
 rw [← hRF, ← h9]
 have hcap := hp.cap
 rw [← hm] at hcap R8 RB8
 have HMP := Hi hm
 by_cases h8 : m < 8
 ·have hpv : p.V = .slice p.ad m p.cap := by unfold Pt.V; rw [hm]
  rw [hpv]
  clear hpv hm hRF h9 hK9 hU hR2 hc hp hbig RB8
  go_enter Try.func23, Try.ntmps23
  go_wp2_with ((with_reducible refine s7b ?_ ?_); (focus rfl))
  (with_reducible refine ⟨?_⟩)
  first | change wpList _ _ _ _ _ (w.alloc (.cells zeroRt.C.toArray 29)) | change Code.wp _ _ _ _ (w.alloc (.cells zeroRt.C.toArray 29)) | change Calls _ _ _ (w.alloc (.cells zeroRt.C.toArray 29)) _
  generalize (w.alloc (.cells zeroRt.C.toArray 29)) = wr at Y0 BW ⊢
  obtain ⟨g, hg⟩ : ∃ i, i = w.heap.size := ⟨_, rfl⟩
  rw [← hg] at Y0 ⊢
  have HG := Hi hg
  clear hg
  (with_reducible refine at_any ?_ ?_); (focus go_simp); refine fun K0 hK => wp_build _ _ rfl _ built_zrep (hK _ _ ?_)
  clear hK
  go_wp2_with ((with_reducible refine s7b ?_ ?_); (focus rfl))
  refine at9 (by go_simp) fun K0 hK => st_r _ _ g zeroRt rfl rfl rfl zeroRt_ok Y0.out.2 (by rw [List.size_toArray, Rt.len zeroRt_ok]) (fun w9 hd ho => hK _ _ ?_)
  clear hK
  replace BW := Hi (ho.below w.heap.size (by have := HG.out; omega) _ BW.out)
  have YD := Hi hd
  clear hd ho
  go_wp2_with fail
  rw [R8.out h8]
  exact bodyPost_ret (res_r2 rfl _ _ g rfl zeroRt YD.out) rfl ⟨⟨zeroRt, rfl, ⟨zeroRt_ok, nilB_pn _ _⟩, rfl⟩, fun _ => BW.out, fun e => absurd e (by decide)⟩
 obtain ⟨ab, ao, ead, _, _⟩ := hp.read (by omega)
 have hpv : p.V = .slice (some ⟨ab, ao, none⟩) m p.cap := by unfold Pt.V; rw [hm, ead]
 have HPV := Hi hpv
 have EAD := Hi ead
 replace RB8 := Hi (RB8.out h8)
 have M8 := Hi h8
 rw [hpv]
 clear hpv hm hRF h9 hK9 hU hR2 hc hp hbig R8 ead
 go_enter Try.func23, Try.ntmps23
 go_wp2_with ((with_reducible refine s7b ?_ ?_); (focus rfl))
 first | change wpList _ _ _ _ _ (w.alloc (.cells zeroRt.C.toArray 29)) | change Code.wp _ _ _ _ (w.alloc (.cells zeroRt.C.toArray 29)) | change Calls _ _ _ (w.alloc (.cells zeroRt.C.toArray 29)) _
 generalize (w.alloc (.cells zeroRt.C.toArray 29)) = wr at Y0 BW ⊢
 obtain ⟨g, hg⟩ : ∃ i, i = w.heap.size := ⟨_, rfl⟩
 rw [← hg] at Y0 ⊢
 have HG := Hi hg
 clear hg
 have PI := Hi (HP.out.ext BW.out)
 refine (show Calls _ _ _ wr _ from (by have h := of9_any p (by rw [← HMP.out]; have := M8.out; omega) wr PI.out; rw [EAD.out] at h; exact h)).mono ?_
 rintro e w1 ⟨rfl, rfl⟩
 rw [← M9.out]
 have C1 := Hi (CW.out.ext BW.out)
 have f9 := CW.out.few
 go_wp2_with ((with_reducible refine s7b ?_ ?_); (focus rfl))
 refine (asked_any B C n k rv got wr C1.out).mono ?_
 rintro e w1 ⟨rfl, rfl⟩
 by_cases hN : got.length ≤ m9
 ·have q0 : (got.length : Int) ≤ (m9 : Int) := by omega
  go_wp2_with ((with_reducible refine s7b ?_ ?_); (focus rfl))
  refine at9 (by go_simp) fun K0 hK => wp_build _ _ rfl _ built_zrep (hK _ _ ?_)
  clear hK
  go_wp2_with ((with_reducible refine s7b ?_ ?_); (focus rfl))
  refine at9 (by go_simp) fun K0 hK => st_r _ _ g zeroRt rfl rfl rfl zeroRt_ok Y0.out.2 (by rw [List.size_toArray, Rt.len zeroRt_ok]) (fun w9 hd ho => hK _ _ ?_)
  clear hK
  replace BW := Hi (ho.below w.heap.size (by have := HG.out; omega) _ BW.out)
  have YD := Hi hd
  clear hd ho
  go_wp2_with fail
  have HZ : RF = (zeroRc, 22) := by rw [HRF.out, RB8.out, if_pos hN]
  rw [HZ]
  exact bodyPost_ret (res_r2 rfl _ _ g rfl zeroRt YD.out) rfl ⟨⟨zeroRt, rfl, ⟨zeroRt_ok, nilB_pn _ _⟩, rfl⟩, fun _ => BW.out, fun e => absurd e (by decide)⟩
 have HN := Hi hN
 have q0 : ¬ (got.length : Int) ≤ (m9 : Int) := by omega
 have q1 : (m9 : Int) < (got.length : Int) := by omega
 go_wp2_with fail
 have n0 := CW.out.n0
 have n1 := CW.out.n1
 obtain ⟨UT, hUT⟩ : ∃ x, x = U.1 := ⟨_, rfl⟩
 obtain ⟨RE, hRE⟩ : ∃ x, x = U.2 := ⟨_, rfl⟩
 have HUT := Hi hUT
 have HRE := Hi hRE
 clear hUT hRE
 have hS0 : ∀ (listed : Array Bool) (f : Nat → Value), (∀ i, listed.getD i false = false) → (LO 17 18 19 21 wr UT RE) listed f wr.drew := fun listed f h0 => LO.start h0 (ex_drewN wr 1)
 obtain ⟨T, hT⟩ : ∃ T : List (Value → Prop), T = [(fun zz => zz = .pointer (some ⟨C, 0, none⟩)), (fun zz => zz = .pointer (some ⟨C, 0, none⟩)), (fun zz => zz = .pointer (some ⟨C, 0, none⟩)), (fun zz => zz = .int .i64 n), (fun zz => zz = .int .u64 (m9 : Int)), (fun zz => zz = .pointer (some ⟨C, 0, none⟩)), (fun zz => zz = .pointer (some ⟨C, 0, none⟩)), (fun zz => zz = .pointer (some ⟨C, 1, none⟩)), (fun zz => zz = digV k), (fun zz => zz = digV K9), (fun zz => zz = .pointer (some ⟨C, 0, none⟩)), (fun zz => zz = .pointer (some ⟨C, 0, none⟩)), (fun zz => zz = .pointer (some ⟨C, 0, none⟩)), (fun zz => zz = .int .i64 n), (fun zz => zz = .int .i64 (128 + n)), (fun zz => zz = .int .u8 (128 + n)), (fun zz => zz = .slice (some ⟨ab, ao, none⟩) m p.cap), (fun zz => ∃ v : Value, zz = .tuple #[v, .int .i64 RE]), (fun zz => ∃ v : Value, zz = .tuple #[v, .int .i64 RE]), (fun _ => True), (fun zz => zz = .int .i64 RE), (fun _ => True), (fun zz => zz = .int .i64 RE)] := ⟨_, rfl⟩
 refine wp_region_gen (JS T ([(18, 17), (19, 18), (21, 19)] : List (Nat × Nat)) (LO 17 18 19 21 wr UT RE)) (by kernel_rfl) (by kernel_rfl) (by kernel_rfl) (fitB_spec (by kernel_rfl)) (fun listed f h => JS.start listed f h (hS0 listed f h)) ?_ ?_
 ·intro i o ho
  have hi : i < 23 := (Array.getElem?_eq_some_iff.1 ho).1
  have hi' : i = 0 ∨ i = 1 ∨ i = 2 ∨ i = 3 ∨ i = 4 ∨ i = 5 ∨ i = 6 ∨ i = 7 ∨ i = 8 ∨ i = 9 ∨ i = 10 ∨ i = 11 ∨ i = 12 ∨ i = 13 ∨ i = 14 ∨ i = 15 ∨ i = 16 ∨ i = 17 ∨ i = 18 ∨ i = 19 ∨ i = 20 ∨ i = 21 ∨ i = 22 := by omega
  clear hi
  rcases hi' with rfl | rfl | rfl | rfl | rfl | rfl | rfl | rfl | rfl | rfl | rfl | rfl | rfl | rfl | rfl | rfl | rfl | rfl | rfl | rfl | rfl | rfl | rfl
  all_goals (simp only [List.getElem?_toArray, List.getElem?_cons_zero, List.getElem?_cons_succ, Option.some.injEq] at ho; subst ho; intro listed f a w2 hJ hsz hls hun hdep hout hlat; first | (rw [if_pos (by rfl)]; intro K hK) | skip)
  ·have q0 := hout 0 ob
   exact wp_mw _ rfl q0 (hK _ _ (hJ.nx hls hT rfl rfl (hJ.st.step (by decide) (by decide) (by decide) (by decide) (Ex.refl _)) nh))
  ·have q23 := hJ.iq hT (hdep ⟨0, .data⟩ (by simp) rfl) rfl _ rfl _ rfl
   clear hsz hdep hout hlat
   go_simp
   exact hK _ _ (hJ.na hls hT (hJ.st.step (by decide) (by decide) (by decide) (by decide) (Ex.refl _)))
  ·have q24 := hJ.iq hT (hdep ⟨1, .data⟩ (by simp) rfl) rfl _ rfl _ rfl
   clear hsz hdep hout hlat
   go_simp
   exact hK _ _ (hJ.na hls hT (hJ.st.step (by decide) (by decide) (by decide) (by decide) (Ex.refl _)))
  ·have q25 := hJ.iq hT (hdep ⟨2, .data⟩ (by simp) rfl) rfl _ rfl _ rfl
   have c6 := (C1.out.ext hJ.st.1).c0
   clear hsz hdep hout hlat
   go_simp
   exact hK _ _ (hJ.nx hls hT rfl rfl (hJ.st.step (by decide) (by decide) (by decide) (by decide) (Ex.refl _)) nh)
  ·have q6 := hout 6 ob
   exact wp_mw _ rfl q6 (hK _ _ (hJ.nx hls hT rfl rfl (hJ.st.step (by decide) (by decide) (by decide) (by decide) (Ex.refl _)) nh))
  ·have q0 := hout 0 ob
   exact wp_mw _ rfl q0 (hK _ _ (hJ.nx hls hT rfl rfl (hJ.st.step (by decide) (by decide) (by decide) (by decide) (Ex.refl _)) nh))
  ·have q28 := hJ.iq hT (hdep ⟨5, .data⟩ (by simp) rfl) rfl _ rfl _ rfl
   clear hsz hdep hout hlat
   go_simp
   exact hK _ _ (hJ.na hls hT (hJ.st.step (by decide) (by decide) (by decide) (by decide) (Ex.refl _)))
  ·have q29 := hJ.iq hT (hdep ⟨6, .data⟩ (by simp) rfl) rfl _ rfl _ rfl
   clear hsz hdep hout hlat
   go_simp
   exact hK _ _ (hJ.na hls hT (hJ.st.step (by decide) (by decide) (by decide) (by decide) (Ex.refl _)))
  ·have q30 := hJ.is hT (hdep ⟨7, .data⟩ (by simp) rfl) rfl _ rfl _ rfl
   exact ld_ckey (.tmp 30) (C1.out.ext hJ.st.1) rfl q30 (hK _ _ (hJ.nx hls hT rfl rfl (hJ.st.step (by decide) (by decide) (by decide) (by decide) (Ex.refl _)) nh))
  ·have q26 := hJ.iq hT (hdep ⟨3, .data⟩ (by simp) rfl) rfl _ rfl _ rfl
   have q27 := hJ.iq hT (hdep ⟨4, .data⟩ (by simp) rfl) rfl _ rfl _ rfl
   have q31 := hJ.iq hT (hdep ⟨8, .data⟩ (by simp) rfl) rfl _ rfl _ rfl
   clear hsz hdep hout hlat
   go_simp
   refine (key_any n m9 (by omega) (by omega) k CW.out.kN w2).mono ?_
   rintro e w3 ⟨rfl, x3⟩
   rw [← K9E.out]
   exact hK _ _ (hJ.nx hls hT rfl rfl (hJ.st.step (by decide) (by decide) (by decide) (by decide) x3) nh)
  ·have q0 := hout 0 ob
   exact wp_mw _ rfl q0 (hK _ _ (hJ.nx hls hT rfl rfl (hJ.st.step (by decide) (by decide) (by decide) (by decide) (Ex.refl _)) nh))
  ·have q33 := hJ.iq hT (hdep ⟨10, .data⟩ (by simp) rfl) rfl _ rfl _ rfl
   clear hsz hdep hout hlat
   go_simp
   exact hK _ _ (hJ.na hls hT (hJ.st.step (by decide) (by decide) (by decide) (by decide) (Ex.refl _)))
  ·have q34 := hJ.iq hT (hdep ⟨11, .data⟩ (by simp) rfl) rfl _ rfl _ rfl
   clear hsz hdep hout hlat
   go_simp
   exact hK _ _ (hJ.na hls hT (hJ.st.step (by decide) (by decide) (by decide) (by decide) (Ex.refl _)))
  ·have q35 := hJ.iq hT (hdep ⟨12, .data⟩ (by simp) rfl) rfl _ rfl _ rfl
   have c6 := (C1.out.ext hJ.st.1).c0
   clear hsz hdep hout hlat
   go_simp
   exact hK _ _ (hJ.nx hls hT rfl rfl (hJ.st.step (by decide) (by decide) (by decide) (by decide) (Ex.refl _)) nh)
  ·have q36 := hJ.iq hT (hdep ⟨13, .data⟩ (by simp) rfl) rfl _ rfl _ rfl
   clear hsz hdep hout hlat
   go_simp
   exact hK _ _ (hJ.nx hls hT rfl (by exact congrArg (Value.int .i64) (by first | omega | (unfold IntKind.wrap; simp [IntKind.bits, IntKind.signed]; omega) | (rw [IntKind.wrap_u64]; omega) | (simp [IntKind.wrap]; omega))) (hJ.st.step (by decide) (by decide) (by decide) (by decide) (Ex.refl _)) nh)
  ·have q37 := hJ.iq hT (hdep ⟨14, .data⟩ (by simp) rfl) rfl _ rfl _ rfl
   clear hsz hdep hout hlat
   go_simp
   exact hK _ _ (hJ.nx hls hT rfl (by exact congrArg (Value.int .u8) (by first | omega | (unfold IntKind.wrap; simp [IntKind.bits, IntKind.signed]; omega) | (rw [IntKind.wrap_u64]; omega) | (simp [IntKind.wrap]; omega))) (hJ.st.step (by decide) (by decide) (by decide) (by decide) (Ex.refl _)) nh)
  ·have q1 := hout 1 ob
   exact wp_mw _ rfl q1 (hK _ _ (hJ.nx hls hT rfl rfl (hJ.st.step (by decide) (by decide) (by decide) (by decide) (Ex.refl _)) nh))
  ·have q32 := hJ.is hT (hdep ⟨9, .data⟩ (by simp) rfl) rfl _ rfl _ rfl
   have q38 := hJ.is hT (hdep ⟨15, .data⟩ (by simp) rfl) rfl _ rfl _ rfl
   have q39 := hJ.is hT (hdep ⟨16, .data⟩ (by simp) rfl) rfl _ rfl _ rfl
   have nt := unq hJ.ord 18 17 hun
   have nx : listed.getD 19 false = false := by
    cases hc : listed.getD 19 false with
    | false => rfl
    | true => exact absurd (hJ.ord (19, 18) (by simp) hc) (by rw [nt]; decide)
   have no : listed.getD 21 false = false := by
    cases hc : listed.getD 21 false with
    | false => rfl
    | true => exact absurd (hJ.ord (21, 19) (by simp) hc) (by rw [nx]; decide)
   rw [gd9] at q32
   rw [gd9] at q38
   rw [gd9] at q39
   clear hsz hdep hout hlat
   go_simp
   refine (eopen9_any K9 KN.out (128 + n) (by omega) (by omega) p _ HPV.out w2 (PI.out.ext hJ.st.1) HB.out).mono ?_
   rintro e w3 ⟨v, rfl, vi, x3⟩
   rw [← UE.out, ← HRE.out]
   rw [← UE.out, ← HUT.out] at vi
   exact hK _ _ (hJ.nx hls hT rfl (by exact ⟨_, rfl⟩) (hJ.st.call (by decide) (by decide) (by decide) nt nx no x3 vi) nh)
  ·have dd40 := hdep ⟨17, .data⟩ (by simp) rfl
   have q40 := dd40.2 _ rfl _ rfl
   have h40 := hJ.vals 17 dd40.1
   rw [hT] at h40
   have h40 : (fun zz => ∃ v : Value, zz = .tuple #[v, .int .i64 RE]) (f 17) := h40
   clear dd40
   have hl17 := (hdep ⟨17, .data⟩ (by simp) rfl).1
   have hord : ∀ x ∈ ([(18, 17), (19, 18), (21, 19)] : List (Nat × Nat)), x.1 = 18 → listed.getD x.2 false = true := (by intro x hx he; simp only [List.mem_cons, List.not_mem_nil, or_false] at hx; rcases hx with rfl | rfl | rfl; all_goals first | (exact absurd he (by decide)) | assumption)
   exact wp_mw _ rfl q40 (hK _ _ (hJ.nx hls hT rfl (by exact h40) (hJ.st.tup (by decide) (by decide) (by decide)) hord))
  ·have dd22 := hdep ⟨18, .data⟩ (by simp) rfl
   have q22 := dd22.2 _ rfl _ rfl
   have h22 := hJ.vals 18 dd22.1
   rw [hT] at h22
   have h22 : (fun zz => ∃ v : Value, zz = .tuple #[v, .int .i64 RE]) (f 18) := h22
   clear dd22
   have hl18 := (hdep ⟨18, .data⟩ (by simp) rfl).1
   have hord : ∀ x ∈ ([(18, 17), (19, 18), (21, 19)] : List (Nat × Nat)), x.1 = 19 → listed.getD x.2 false = true := (by intro x hx he; simp only [List.mem_cons, List.not_mem_nil, or_false] at hx; rcases hx with rfl | rfl | rfl; all_goals first | (exact absurd he (by decide)) | assumption)
   have l17 := (hdep ⟨18, .data⟩ (by simp) rfl).1
   obtain ⟨v9, e9, _, e8, _⟩ := hJ.st.2 (hJ.ord (18, 17) (by simp) l17)
   have z9 : f 18 = .tuple #[v9, .int .i64 RE] := (e8 l17).trans e9
   rw [z9] at q22
   rw [gd9] at q22
   clear hsz hdep hout hlat e8 e9
   go_simp
   exact hK _ _ (hJ.nx hls hT rfl (by exact trivial) (hJ.st.ext (by decide) (by decide) (by decide) l17 z9) hord)
  ·have dd22 := hdep ⟨18, .data⟩ (by simp) rfl
   have q22 := dd22.2 _ rfl _ rfl
   have h22 := hJ.vals 18 dd22.1
   rw [hT] at h22
   have h22 : (fun zz => ∃ v : Value, zz = .tuple #[v, .int .i64 RE]) (f 18) := h22
   clear dd22
   obtain ⟨v9, e9⟩ := h22
   rw [e9] at q22
   rw [gd9] at q22
   clear hsz hdep hout hlat e9
   go_simp
   exact hK _ _ (hJ.nx hls hT rfl rfl (hJ.st.step (by decide) (by decide) (by decide) (by decide) (Ex.refl _)) nh)
  ·have dd41 := hdep ⟨19, .data⟩ (by simp) rfl
   have q41 := dd41.2 _ rfl _ rfl
   have hl19 := (hdep ⟨19, .data⟩ (by simp) rfl).1
   have hord : ∀ x ∈ ([(18, 17), (19, 18), (21, 19)] : List (Nat × Nat)), x.1 = 21 → listed.getD x.2 false = true := (by intro x hx he; simp only [List.mem_cons, List.not_mem_nil, or_false] at hx; rcases hx with rfl | rfl | rfl; all_goals first | (exact absurd he (by decide)) | assumption)
   have l18 := (hdep ⟨19, .data⟩ (by simp) rfl).1
   refine wp_asg9 _ rfl (hK _ _ ?_)
   rw [show a.eval (.tmp 41) = f 19 from q41]
   exact hJ.nx hls hT rfl (by exact trivial) (hJ.st.put (by decide) (by decide) (by decide) l18) hord
  have q42 := hJ.iq hT (hdep ⟨20, .data⟩ (by simp) rfl) rfl _ rfl _ rfl
  clear hsz hdep hout hlat
  go_simp
  exact hK _ _ (hJ.na hls hT (hJ.st.step (by decide) (by decide) (by decide) (by decide) (Ex.refl _)))
 intro listed f w2 hall hJ
 have f22 := hJ.fa hT (hall 22 (by simp)) rfl
 have hst := hJ.st
 simp only [putAll, Act.put, List.setIfInBounds_toArray, List.set_cons_zero, List.set_cons_succ, Nat.zero_add, Nat.reduceAdd]
 obtain ⟨v9, _, o9, _, _, a9⟩ := hst.2 (hall 17 (by simp))
 have a9 := a9 (hall 21 (by simp))
 have x9 := hst.1
 clear hst hS0
 rw [a9]
 obtain ⟨r, rfl, rl, ri⟩ := o9
 have RL := Hi rl
 have RI0 := Hi ri
 clear rl ri a9
 rw [f22]
 clear f22
 clear hJ hall hT
 replace BW := Hi (Ex.trans BW.out x9)
 replace Y0 := Hi (Y0.out.ext x9)
 replace C1 := Hi (C1.out.ext x9)
 clear x9
 clear n0 n1
 by_cases hz : RE = 0
 rotate_left
 ·have NZ := Hi hz
  have hb : (RE == 0) = false := by simpa using hz
  go_wp2_with ((with_reducible refine s7b ?_ ?_); (focus rfl))
  refine at9 (by go_simp) fun K0 hK => wp_build _ _ rfl _ built_zrep (hK _ _ ?_)
  clear hK
  go_wp2_with ((with_reducible refine s7b ?_ ?_); (focus rfl))
  refine at9 (by go_simp) fun K0 hK => st_r _ _ g zeroRt rfl rfl rfl zeroRt_ok Y0.out.2 (by rw [List.size_toArray, Rt.len zeroRt_ok]) (fun w9 hd ho => hK _ _ ?_)
  clear hK
  replace BW := Hi (ho.below w.heap.size (by have := HG.out; omega) _ BW.out)
  have YD := Hi hd
  clear hd ho
  go_wp2_with fail
  have HZ : RF = (zeroRc, RE) := by rw [HRF.out, RB8.out, if_neg HN.out, if_pos (by rw [← HRE.out]; exact NZ.out), ← HRE.out]
  rw [HZ]
  exact bodyPost_ret (res_r2 rfl _ _ g rfl zeroRt YD.out) rfl ⟨⟨zeroRt, rfl, ⟨zeroRt_ok, nilB_pn _ _⟩, rfl⟩, fun _ => BW.out, fun e => absurd e (by exact NZ.out)⟩
 have HZ := Hi hz
 subst hz
 go_wp2_with ((with_reducible refine s7b ?_ ?_); (focus rfl))
 refine (torep_any r w2 RI0.out (by rw [RL.out, HUT.out]; have := UL.out; omega)).mono ?_
 rintro e w3 ⟨y, rfl, ⟨yo, yn⟩, yc, x3⟩
 rw [RL.out, HUT.out, ← R2E.out] at yc ⊢
 have YO := Hi yo
 have YN := Hi yn
 have YC := Hi yc
 replace BW := Hi (Ex.trans BW.out x3)
 replace Y0 := Hi (Y0.out.ext x3)
 replace C1 := Hi (C1.out.ext x3)
 obtain ⟨E2, hE2⟩ : ∃ x, x = R2.2 := ⟨_, rfl⟩
 rw [← hE2]
 have HE2 := Hi hE2
 clear yo yn yc x3 hE2
 go_wp2_with ((with_reducible refine s7b ?_ ?_); (focus rfl))
 obtain ⟨i, hi⟩ : ∃ i, i = w3.heap.size := ⟨_, rfl⟩
 have HI := Hi hi
 refine at9 (by go_simp) fun K0 hK => st_r _ _ w3.heap.size y rfl rfl rfl YO.out (Bk.new rfl _ _) (by rfl) (fun w4 hd ho => hK _ _ ?_)
 clear hK
 have x3 : Ex w3 w4 := ho.below w3.heap.size (Nat.le_refl _) w3 (Ex.alloc w3 _)
 replace BW := Hi (Ex.trans BW.out x3)
 replace Y0 := Hi (Y0.out.ext x3)
 replace C1 := Hi (C1.out.ext x3)
 replace YN := Hi (YN.out.ext x3)
 have YI := Hi hd
 rw [← hi] at YI ⊢
 clear hi hd ho x3
 by_cases ez : E2 = 0
 rotate_left
 ·obtain rfl : E2 = 12 := by rw [HE2.out, R2E.out]; exact toRep_12 (by rw [← R2E.out, ← HE2.out]; exact ez)
  go_wp2_with ((with_reducible refine s7b ?_ ?_); (focus rfl))
  refine at9 (by go_simp) fun K0 hK => wp_build _ _ rfl _ built_zrep (hK _ _ ?_)
  clear hK
  go_wp2_with ((with_reducible refine s7b ?_ ?_); (focus rfl))
  refine at9 (by go_simp) fun K0 hK => st_r _ _ g zeroRt rfl rfl rfl zeroRt_ok Y0.out.2 (by rw [List.size_toArray, Rt.len zeroRt_ok]) (fun w9 hd ho => hK _ _ ?_)
  clear hK
  replace BW := Hi (ho.below w.heap.size (by have := HG.out; omega) _ BW.out)
  have YD := Hi hd
  clear hd ho
  go_wp2_with fail
  have HZ : RF = (zeroRc, 12) := by rw [HRF.out, RB8.out, if_neg HN.out, if_neg (by rw [← HRE.out]; exact fun h => h rfl), if_pos (by rw [← HE2.out]; exact ez)]
  rw [HZ]
  exact bodyPost_ret (res_r2 rfl _ _ g rfl zeroRt YD.out) rfl ⟨⟨zeroRt, rfl, ⟨zeroRt_ok, nilB_pn _ _⟩, rfl⟩, fun _ => BW.out, fun e => absurd e (by decide)⟩
 have EZ := Hi ez
 subst ez
 go_wp2_with fail
 have y8 := YI.out.cells.2.2.2.2.1
 have y9 := YI.out.cells.2.2.2.2.2
 have c0 := C1.out.c0
 by_cases hcl : y.client = n
 rotate_left
 ·have QX : Hid (¬ (y.ct.client = n ∧ y.ct.num = (m9 : Int))) := Hi (fun h => hcl h.1)
  have b8 : (y.client == n) = false := by simpa using hcl
  go_quiet (fail)
  obtain ⟨w5, hw5⟩ : ∃ x, x = w4.drewN nq := ⟨_, rfl⟩
  have XQ : Ex w4 w5 := by rw [hw5]; exact ex_drewN w4 nq
  rw [← hw5]
  replace BW := Hi (Ex.trans BW.out XQ)
  replace Y0 := Hi (Y0.out.ext XQ)
  replace C1 := Hi (C1.out.ext XQ)
  replace YI := Hi (YI.out.ext XQ)
  replace YN := Hi (YN.out.ext XQ)
  clear hw5 XQ c0 y8
  go_wp2_with ((with_reducible refine s7b ?_ ?_); (focus rfl))
  refine at9 (by go_simp) fun K0 hK => wp_build _ _ rfl _ built_zrep (hK _ _ ?_)
  clear hK
  go_wp2_with ((with_reducible refine s7b ?_ ?_); (focus rfl))
  refine at9 (by go_simp) fun K0 hK => st_r _ _ g zeroRt rfl rfl rfl zeroRt_ok Y0.out.2 (by rw [List.size_toArray, Rt.len zeroRt_ok]) (fun w9 hd ho => hK _ _ ?_)
  clear hK
  replace BW := Hi (ho.below w.heap.size (by have := HG.out; omega) _ BW.out)
  have YD := Hi hd
  clear hd ho
  go_wp2_with fail
  have HZ : RF = (zeroRc, 12) := by rw [HRF.out, RB8.out, if_neg HN.out, if_neg (by rw [← HRE.out]; exact fun h => h rfl), if_neg (by rw [← HE2.out]; first | exact fun h => h rfl | exact fun h => h EZ.out), if_neg (by rw [← YC.out]; exact fun h => QX.out h)]
  rw [HZ]
  exact bodyPost_ret (res_r2 rfl _ _ g rfl zeroRt YD.out) rfl ⟨⟨zeroRt, rfl, ⟨zeroRt_ok, nilB_pn _ _⟩, rfl⟩, fun _ => BW.out, fun e => absurd e (by decide)⟩
 have QC : Hid (y.ct.client = n) := Hi hcl
 rw [hcl] at y8
 clear hcl
 by_cases hnm : y.num = (m9 : Int)
 rotate_left
 ·have QX : Hid (¬ (y.ct.client = n ∧ y.ct.num = (m9 : Int))) := Hi (fun h => hnm h.2)
  have b9 : (y.num == (m9 : Int)) = false := by simpa using hnm
  have d9 := hnm
  go_quiet (fail)
  obtain ⟨w5, hw5⟩ : ∃ x, x = w4.drewN nq := ⟨_, rfl⟩
  have XQ : Ex w4 w5 := by rw [hw5]; exact ex_drewN w4 nq
  rw [← hw5]
  replace BW := Hi (Ex.trans BW.out XQ)
  replace Y0 := Hi (Y0.out.ext XQ)
  replace C1 := Hi (C1.out.ext XQ)
  replace YI := Hi (YI.out.ext XQ)
  replace YN := Hi (YN.out.ext XQ)
  clear hw5 XQ c0 y8
  go_wp2_with ((with_reducible refine s7b ?_ ?_); (focus rfl))
  refine at9 (by go_simp) fun K0 hK => wp_build _ _ rfl _ built_zrep (hK _ _ ?_)
  clear hK
  go_wp2_with ((with_reducible refine s7b ?_ ?_); (focus rfl))
  refine at9 (by go_simp) fun K0 hK => st_r _ _ g zeroRt rfl rfl rfl zeroRt_ok Y0.out.2 (by rw [List.size_toArray, Rt.len zeroRt_ok]) (fun w9 hd ho => hK _ _ ?_)
  clear hK
  replace BW := Hi (ho.below w.heap.size (by have := HG.out; omega) _ BW.out)
  have YD := Hi hd
  clear hd ho
  go_wp2_with fail
  have HZ : RF = (zeroRc, 12) := by rw [HRF.out, RB8.out, if_neg HN.out, if_neg (by rw [← HRE.out]; exact fun h => h rfl), if_neg (by rw [← HE2.out]; first | exact fun h => h rfl | exact fun h => h EZ.out), if_neg (by rw [← YC.out]; exact fun h => QX.out h)]
  rw [HZ]
  exact bodyPost_ret (res_r2 rfl _ _ g rfl zeroRt YD.out) rfl ⟨⟨zeroRt, rfl, ⟨zeroRt_ok, nilB_pn _ _⟩, rfl⟩, fun _ => BW.out, fun e => absurd e (by decide)⟩
 have QN : Hid (y.ct.num = (m9 : Int)) := Hi hnm
 rw [hnm] at y9
 clear hnm
 go_quiet (fail)
 obtain ⟨w5, hw5⟩ : ∃ x, x = w4.drewN nq := ⟨_, rfl⟩
 have XQ : Ex w4 w5 := by rw [hw5]; exact ex_drewN w4 nq
 rw [← hw5]
 replace BW := Hi (Ex.trans BW.out XQ)
 replace Y0 := Hi (Y0.out.ext XQ)
 replace C1 := Hi (C1.out.ext XQ)
 replace YI := Hi (YI.out.ext XQ)
 replace YN := Hi (YN.out.ext XQ)
 clear hw5 XQ c0 y8
 have cR := C1.out.c17
 obtain ⟨gb, cap, CC, hrv, hgB, hgb, hgn, hgc, _⟩ := got_store (w' := w5) (g := 0) (by have := HN.out; omega : m9 < got.length) C1.out.row
 have HRV := Hi hrv
 have HGB := Hi hgb
 rw [hrv] at cR
 have q3 : m9 < got.length := by have := HN.out; omega
 have q4 : (0 : Int) ≤ (m9 : Int) := by omega
 clear hrv hgb hgB
 go_wp2_with ((with_reducible refine s7b ?_ ?_); (focus rfl))
 refine at9 (by go_simp) fun K0 hK => st_got _ _ m9 gb rfl (by rw [HRV.out]; rfl) (by have := HN.out; omega) C1.out.row rfl rfl (fun w6 hd ho => hK _ _ ?_)
 clear hK
 have NE : Hid (gb ≠ C) := Hi (by rintro rfl; exact absurd (Bk.ty HGB.out C1.out.blk) (by decide))
 have K6 : Hid (CI w6 B C n k rv (got.set m9 true)) := Hi ⟨by exact ho.bk C1.out.blk (Ne.symm NE.out), hd, C1.out.lo, C1.out.kN, C1.out.n0, C1.out.n1, by rw [List.length_set]; exact C1.out.few⟩
 have T6 : Hid (Tc C rv.ownBlock w w6) := Hi ((Ex.tc C _ BW.out).trans (Only.tc ho (Or.inr (by rw [HRV.out]; rfl))) (Or.inl rfl))
 replace YI := Hi (show RB w6 i y from ⟨YI.out.1, ho.bk YI.out.2 (by rintro rfl; exact absurd (Bk.ty HGB.out YI.out.2) (by decide))⟩)
 replace Y0 := Hi (show RB w6 g zeroRt from ⟨Y0.out.1, ho.bk Y0.out.2 (by rintro rfl; exact absurd (Bk.ty HGB.out Y0.out.2) (by decide))⟩)
 replace YN := Hi (YN.out.onlyT ho HGB.out (by decide))
 clear hd ho cR
 go_wp2_with ((with_reducible refine s7b ?_ ?_); (focus rfl))
 refine at9 (by go_simp) fun K0 hK => ld_r _ i y rfl rfl YI.out (hK _ _ ?_)
 clear hK
 go_wp2_with ((with_reducible refine s7b ?_ ?_); (focus rfl))
 refine at9 (by go_simp) fun K0 hK => st_r _ _ g y rfl rfl rfl YI.out.1 Y0.out.2 (by rw [List.size_toArray, Rt.len zeroRt_ok]) (fun w7 hd ho => hK _ _ ?_)
 clear hK
 replace YN := Hi (YN.out.onlyT ho Y0.out.2 (by decide))
 have YD := Hi hd
 replace K6 := Hi (K6.out.only9 ho Y0.out.2 (by decide) (by decide))
 replace T6 := Hi (Tc.only9 T6.out ho (by have := HG.out; omega))
 clear hd ho
 go_wp2_with fail
 have HR : RF = (R2.1, 0) := by
  rw [HRF.out, RB8.out, if_neg HN.out, if_neg (by rw [← HRE.out]; exact fun h => h rfl), if_neg (by rw [← HE2.out]; first | exact fun h => h rfl | exact fun h => h EZ.out), if_pos ⟨by rw [← YC.out]; exact QC.out, by rw [← YC.out]; exact QN.out⟩]
 rw [HR]
 exact bodyPost_ret (res_r2 rfl _ _ g rfl y YD.out) rfl ⟨⟨y, rfl, ⟨YO.out, YN.out⟩, YC.out⟩, fun e => absurd rfl e, fun _ => ⟨K6.out, T6.out⟩⟩
theorem ropen9_any (B C : Nat) (n : Int) (k : List UInt8) (rv : Value) (got : List Bool) (p : Pt) (w : World) (hc : DI w B C n k rv got) (hp : p.In w w.heap.size) (hbig : p.l.length ≤ 9223372036854775807) : Calls Try.prog 101 #[.pointer (some ⟨C, 0, none⟩), p.V] w (ROpPost B C n k rv got (Sm.beV (p.l.take 8)) (openF n k got.length p.l) w) := by
 obtain ⟨m, hm⟩ : ∃ m, m = p.l.length := ⟨_, rfl⟩
 obtain ⟨RF, hRF⟩ : ∃ R, R = openF n k got.length p.l := ⟨_, rfl⟩
 obtain ⟨m9, h9⟩ : ∃ x, x = Sm.beV (p.l.take 8) := ⟨_, rfl⟩
 obtain ⟨K9, hK9⟩ : ∃ x, x = keyL n m9 k := ⟨_, rfl⟩
 obtain ⟨U, hU⟩ : ∃ x, x = Sm.uncL K9 (Sm.by8 (128 + n)) p.l := ⟨_, rfl⟩
 obtain ⟨R2, hR2⟩ : ∃ x, x = toRep U.1 := ⟨_, rfl⟩
 have RB8 := Hi (fun (h8 : ¬ p.l.length < 8) => openF_by (n := n) (k := k) (N := got.length) (L := p.l) h8 h9 (U := U) (by rw [hU, hK9]) hR2)
 have KN : Hid (K9.length = 16) := Hi (by rw [hK9]; exact keyL_len _ _ _)
 have UL : Hid (U.1.length ≤ 8192) := Hi (by rw [hU]; exact uncL_len _ _ _)
 have R2E := Hi hR2
 have UE := Hi hU
 have K9E := Hi hK9
 have M9 := Hi h9
 have HRF := Hi hRF
 have CW := Hi hc
 have HP := Hi hp
 have HB := Hi hbig
 have R8 : Hid (p.l.length < 8 → RF = (zeroRc, 12)) := Hi (fun h => by rw [hRF]; unfold openF; rw [if_pos h])
 have Y0 : Hid (RB (w.alloc (.cells zeroRt.C.toArray 29)) w.heap.size zeroRt) := Hi ⟨zeroRt_ok, Bk.new rfl _ _⟩
 have BW : Hid (Ex w (w.alloc (.cells zeroRt.C.toArray 29))) := Hi (Ex.alloc _ _)
 rw [← hRF, ← h9]
 have hcap := hp.cap
 rw [← hm] at hcap R8 RB8
 have HMP := Hi hm
 by_cases h8 : m < 8
 ·have hpv : p.V = .slice p.ad m p.cap := by unfold Pt.V; rw [hm]
  rw [hpv]
  clear hpv hm hRF h9 hK9 hU hR2 hc hp hbig RB8
  go_enter Try.func101, Try.ntmps101
  go_wp2_with ((with_reducible refine s7b ?_ ?_); (focus rfl))
  (with_reducible refine ⟨?_⟩)
  first | change wpList _ _ _ _ _ (w.alloc (.cells zeroRt.C.toArray 29)) | change Code.wp _ _ _ _ (w.alloc (.cells zeroRt.C.toArray 29)) | change Calls _ _ _ (w.alloc (.cells zeroRt.C.toArray 29)) _
  generalize (w.alloc (.cells zeroRt.C.toArray 29)) = wr at Y0 BW ⊢
  obtain ⟨g, hg⟩ : ∃ i, i = w.heap.size := ⟨_, rfl⟩
  rw [← hg] at Y0 ⊢
  have HG := Hi hg
  clear hg
  (with_reducible refine at_any ?_ ?_); (focus go_simp); refine fun K0 hK => wp_build _ _ rfl _ built_zrep (hK _ _ ?_)
  clear hK
  go_wp2_with ((with_reducible refine s7b ?_ ?_); (focus rfl))
  refine at9 (by go_simp) fun K0 hK => st_r _ _ g zeroRt rfl rfl rfl zeroRt_ok Y0.out.2 (by rw [List.size_toArray, Rt.len zeroRt_ok]) (fun w9 hd ho => hK _ _ ?_)
  clear hK
  replace BW := Hi (ho.below w.heap.size (by have := HG.out; omega) _ BW.out)
  have YD := Hi hd
  clear hd ho
  go_wp2_with fail
  rw [R8.out h8]
  exact bodyPost_ret (res_r2 rfl _ _ g rfl zeroRt YD.out) rfl ⟨⟨zeroRt, rfl, ⟨zeroRt_ok, nilB_pn _ _⟩, rfl⟩, fun _ => BW.out, fun e => absurd e (by decide)⟩
 obtain ⟨ab, ao, ead, _, _⟩ := hp.read (by omega)
 have hpv : p.V = .slice (some ⟨ab, ao, none⟩) m p.cap := by unfold Pt.V; rw [hm, ead]
 have HPV := Hi hpv
 have EAD := Hi ead
 replace RB8 := Hi (RB8.out h8)
 have M8 := Hi h8
 rw [hpv]
 clear hpv hm hRF h9 hK9 hU hR2 hc hp hbig R8 ead
 go_enter Try.func101, Try.ntmps101
 go_wp2_with ((with_reducible refine s7b ?_ ?_); (focus rfl))
 first | change wpList _ _ _ _ _ (w.alloc (.cells zeroRt.C.toArray 29)) | change Code.wp _ _ _ _ (w.alloc (.cells zeroRt.C.toArray 29)) | change Calls _ _ _ (w.alloc (.cells zeroRt.C.toArray 29)) _
 generalize (w.alloc (.cells zeroRt.C.toArray 29)) = wr at Y0 BW ⊢
 obtain ⟨g, hg⟩ : ∃ i, i = w.heap.size := ⟨_, rfl⟩
 rw [← hg] at Y0 ⊢
 have HG := Hi hg
 clear hg
 have PI := Hi (HP.out.ext BW.out)
 refine (rseed9_any p (by rw [← HMP.out]; have := M8.out; omega) _ HPV.out wr PI.out).mono ?_
 rintro e w1 ⟨rfl, rfl⟩
 rw [← M9.out]
 have C1 := Hi (CW.out.ext BW.out)
 have f9 := CW.out.few
 have c1 := C1.out.c0.2
 by_cases hN : got.length ≤ m9
 ·have q0 : (got.length : Int) ≤ (m9 : Int) := by omega
  go_wp2_with ((with_reducible refine s7b ?_ ?_); (focus rfl))
  refine at9 (by go_simp) fun K0 hK => wp_build _ _ rfl _ built_zrep (hK _ _ ?_)
  clear hK
  go_wp2_with ((with_reducible refine s7b ?_ ?_); (focus rfl))
  refine at9 (by go_simp) fun K0 hK => st_r _ _ g zeroRt rfl rfl rfl zeroRt_ok Y0.out.2 (by rw [List.size_toArray, Rt.len zeroRt_ok]) (fun w9 hd ho => hK _ _ ?_)
  clear hK
  replace BW := Hi (ho.below w.heap.size (by have := HG.out; omega) _ BW.out)
  have YD := Hi hd
  clear hd ho
  go_wp2_with fail
  have HZ : RF = (zeroRc, 22) := by rw [HRF.out, RB8.out, if_pos hN]
  rw [HZ]
  exact bodyPost_ret (res_r2 rfl _ _ g rfl zeroRt YD.out) rfl ⟨⟨zeroRt, rfl, ⟨zeroRt_ok, nilB_pn _ _⟩, rfl⟩, fun _ => BW.out, fun e => absurd e (by decide)⟩
 have HN := Hi hN
 have q0 : ¬ (got.length : Int) ≤ (m9 : Int) := by omega
 have q1 : (m9 : Int) < (got.length : Int) := by omega
 go_wp2_with fail
 have n0 := CW.out.n0
 have n1 := CW.out.n1
 obtain ⟨UT, hUT⟩ : ∃ x, x = U.1 := ⟨_, rfl⟩
 obtain ⟨RE, hRE⟩ : ∃ x, x = U.2 := ⟨_, rfl⟩
 have HUT := Hi hUT
 have HRE := Hi hRE
 clear hUT hRE
 clear c1
 have hS0 : ∀ (listed : Array Bool) (f : Nat → Value), (∀ i, listed.getD i false = false) → (LO 17 18 19 21 wr UT RE) listed f wr.drew := fun listed f h0 => LO.start h0 (ex_drewN wr 1)
 obtain ⟨T, hT⟩ : ∃ T : List (Value → Prop), T = [(fun zz => zz = .pointer (some ⟨C, 0, none⟩)), (fun zz => zz = .pointer (some ⟨C, 0, none⟩)), (fun zz => zz = .pointer (some ⟨C, 0, none⟩)), (fun zz => zz = .int .i64 n), (fun zz => zz = .int .u64 (m9 : Int)), (fun zz => zz = .pointer (some ⟨C, 0, none⟩)), (fun zz => zz = .pointer (some ⟨C, 0, none⟩)), (fun zz => zz = .pointer (some ⟨C, 2, none⟩)), (fun zz => zz = digV k), (fun zz => zz = digV K9), (fun zz => zz = .pointer (some ⟨C, 0, none⟩)), (fun zz => zz = .pointer (some ⟨C, 0, none⟩)), (fun zz => zz = .pointer (some ⟨C, 0, none⟩)), (fun zz => zz = .int .i64 n), (fun zz => zz = .int .i64 (128 + n)), (fun zz => zz = .int .u8 (128 + n)), (fun zz => zz = .slice (some ⟨ab, ao, none⟩) m p.cap), (fun zz => ∃ v : Value, zz = .tuple #[v, .int .i64 RE]), (fun zz => ∃ v : Value, zz = .tuple #[v, .int .i64 RE]), (fun _ => True), (fun zz => zz = .int .i64 RE), (fun _ => True), (fun zz => zz = .int .i64 RE)] := ⟨_, rfl⟩
 refine wp_region_gen (JS T ([(18, 17), (19, 18), (21, 19)] : List (Nat × Nat)) (LO 17 18 19 21 wr UT RE)) (by kernel_rfl) (by kernel_rfl) (by kernel_rfl) (fitB_spec (by kernel_rfl)) (fun listed f h => JS.start listed f h (hS0 listed f h)) ?_ ?_
 ·intro i o ho
  have hi : i < 23 := (Array.getElem?_eq_some_iff.1 ho).1
  have hi' : i = 0 ∨ i = 1 ∨ i = 2 ∨ i = 3 ∨ i = 4 ∨ i = 5 ∨ i = 6 ∨ i = 7 ∨ i = 8 ∨ i = 9 ∨ i = 10 ∨ i = 11 ∨ i = 12 ∨ i = 13 ∨ i = 14 ∨ i = 15 ∨ i = 16 ∨ i = 17 ∨ i = 18 ∨ i = 19 ∨ i = 20 ∨ i = 21 ∨ i = 22 := by omega
  clear hi
  rcases hi' with rfl | rfl | rfl | rfl | rfl | rfl | rfl | rfl | rfl | rfl | rfl | rfl | rfl | rfl | rfl | rfl | rfl | rfl | rfl | rfl | rfl | rfl | rfl
  all_goals (simp only [List.getElem?_toArray, List.getElem?_cons_zero, List.getElem?_cons_succ, Option.some.injEq] at ho; subst ho; intro listed f a w2 hJ hsz hls hun hdep hout hlat; first | (rw [if_pos (by rfl)]; intro K hK) | skip)
  ·have q0 := hout 0 ob
   exact wp_mw _ rfl q0 (hK _ _ (hJ.nx hls hT rfl rfl (hJ.st.step (by decide) (by decide) (by decide) (by decide) (Ex.refl _)) nh))
  ·have q25 := hJ.iq hT (hdep ⟨0, .data⟩ (by simp) rfl) rfl _ rfl _ rfl
   clear hsz hdep hout hlat
   go_simp
   exact hK _ _ (hJ.na hls hT (hJ.st.step (by decide) (by decide) (by decide) (by decide) (Ex.refl _)))
  ·have q26 := hJ.iq hT (hdep ⟨1, .data⟩ (by simp) rfl) rfl _ rfl _ rfl
   clear hsz hdep hout hlat
   go_simp
   exact hK _ _ (hJ.na hls hT (hJ.st.step (by decide) (by decide) (by decide) (by decide) (Ex.refl _)))
  ·have q27 := hJ.iq hT (hdep ⟨2, .data⟩ (by simp) rfl) rfl _ rfl _ rfl
   have c6 := (C1.out.ext hJ.st.1).c0.1
   clear hsz hdep hout hlat
   go_simp
   exact hK _ _ (hJ.nx hls hT rfl rfl (hJ.st.step (by decide) (by decide) (by decide) (by decide) (Ex.refl _)) nh)
  ·have q6 := hout 6 ob
   exact wp_mw _ rfl q6 (hK _ _ (hJ.nx hls hT rfl rfl (hJ.st.step (by decide) (by decide) (by decide) (by decide) (Ex.refl _)) nh))
  ·have q0 := hout 0 ob
   exact wp_mw _ rfl q0 (hK _ _ (hJ.nx hls hT rfl rfl (hJ.st.step (by decide) (by decide) (by decide) (by decide) (Ex.refl _)) nh))
  ·have q30 := hJ.iq hT (hdep ⟨5, .data⟩ (by simp) rfl) rfl _ rfl _ rfl
   clear hsz hdep hout hlat
   go_simp
   exact hK _ _ (hJ.na hls hT (hJ.st.step (by decide) (by decide) (by decide) (by decide) (Ex.refl _)))
  ·have q31 := hJ.iq hT (hdep ⟨6, .data⟩ (by simp) rfl) rfl _ rfl _ rfl
   clear hsz hdep hout hlat
   go_simp
   exact hK _ _ (hJ.na hls hT (hJ.st.step (by decide) (by decide) (by decide) (by decide) (Ex.refl _)))
  ·have q32 := hJ.is hT (hdep ⟨7, .data⟩ (by simp) rfl) rfl _ rfl _ rfl
   exact ld_rkey (.tmp 32) (C1.out.ext hJ.st.1) rfl q32 (hK _ _ (hJ.nx hls hT rfl rfl (hJ.st.step (by decide) (by decide) (by decide) (by decide) (Ex.refl _)) nh))
  ·have q28 := hJ.iq hT (hdep ⟨3, .data⟩ (by simp) rfl) rfl _ rfl _ rfl
   have q29 := hJ.iq hT (hdep ⟨4, .data⟩ (by simp) rfl) rfl _ rfl _ rfl
   have q33 := hJ.iq hT (hdep ⟨8, .data⟩ (by simp) rfl) rfl _ rfl _ rfl
   clear hsz hdep hout hlat
   go_simp
   refine (rkeyof_any n m9 (by omega) (by omega) k CW.out.kN w2).mono ?_
   rintro e w3 ⟨rfl, x3⟩
   rw [← K9E.out]
   exact hK _ _ (hJ.nx hls hT rfl rfl (hJ.st.step (by decide) (by decide) (by decide) (by decide) x3) nh)
  ·have q0 := hout 0 ob
   exact wp_mw _ rfl q0 (hK _ _ (hJ.nx hls hT rfl rfl (hJ.st.step (by decide) (by decide) (by decide) (by decide) (Ex.refl _)) nh))
  ·have q35 := hJ.iq hT (hdep ⟨10, .data⟩ (by simp) rfl) rfl _ rfl _ rfl
   clear hsz hdep hout hlat
   go_simp
   exact hK _ _ (hJ.na hls hT (hJ.st.step (by decide) (by decide) (by decide) (by decide) (Ex.refl _)))
  ·have q36 := hJ.iq hT (hdep ⟨11, .data⟩ (by simp) rfl) rfl _ rfl _ rfl
   clear hsz hdep hout hlat
   go_simp
   exact hK _ _ (hJ.na hls hT (hJ.st.step (by decide) (by decide) (by decide) (by decide) (Ex.refl _)))
  ·have q37 := hJ.iq hT (hdep ⟨12, .data⟩ (by simp) rfl) rfl _ rfl _ rfl
   have c6 := (C1.out.ext hJ.st.1).c0.1
   clear hsz hdep hout hlat
   go_simp
   exact hK _ _ (hJ.nx hls hT rfl rfl (hJ.st.step (by decide) (by decide) (by decide) (by decide) (Ex.refl _)) nh)
  ·have q38 := hJ.iq hT (hdep ⟨13, .data⟩ (by simp) rfl) rfl _ rfl _ rfl
   clear hsz hdep hout hlat
   go_simp
   exact hK _ _ (hJ.nx hls hT rfl (by exact congrArg (Value.int .i64) (by first | omega | (unfold IntKind.wrap; simp [IntKind.bits, IntKind.signed]; omega) | (rw [IntKind.wrap_u64]; omega) | (simp [IntKind.wrap]; omega))) (hJ.st.step (by decide) (by decide) (by decide) (by decide) (Ex.refl _)) nh)
  ·have q39 := hJ.iq hT (hdep ⟨14, .data⟩ (by simp) rfl) rfl _ rfl _ rfl
   clear hsz hdep hout hlat
   go_simp
   exact hK _ _ (hJ.nx hls hT rfl (by exact congrArg (Value.int .u8) (by first | omega | (unfold IntKind.wrap; simp [IntKind.bits, IntKind.signed]; omega) | (rw [IntKind.wrap_u64]; omega) | (simp [IntKind.wrap]; omega))) (hJ.st.step (by decide) (by decide) (by decide) (by decide) (Ex.refl _)) nh)
  ·have q1 := hout 1 ob
   exact wp_mw _ rfl q1 (hK _ _ (hJ.nx hls hT rfl rfl (hJ.st.step (by decide) (by decide) (by decide) (by decide) (Ex.refl _)) nh))
  ·have q34 := hJ.is hT (hdep ⟨9, .data⟩ (by simp) rfl) rfl _ rfl _ rfl
   have q40 := hJ.is hT (hdep ⟨15, .data⟩ (by simp) rfl) rfl _ rfl _ rfl
   have q41 := hJ.is hT (hdep ⟨16, .data⟩ (by simp) rfl) rfl _ rfl _ rfl
   have nt := unq hJ.ord 18 17 hun
   have nx : listed.getD 19 false = false := by
    cases hc : listed.getD 19 false with
    | false => rfl
    | true => exact absurd (hJ.ord (19, 18) (by simp) hc) (by rw [nt]; decide)
   have no : listed.getD 21 false = false := by
    cases hc : listed.getD 21 false with
    | false => rfl
    | true => exact absurd (hJ.ord (21, 19) (by simp) hc) (by rw [nx]; decide)
   rw [gd9] at q34
   rw [gd9] at q40
   rw [gd9] at q41
   clear hsz hdep hout hlat
   go_simp
   refine (runc9_any K9 KN.out (128 + n) (by omega) (by omega) p _ HPV.out w2 (PI.out.ext hJ.st.1) HB.out).mono ?_
   rintro e w3 ⟨v, rfl, vi, x3⟩
   rw [← UE.out, ← HRE.out]
   rw [← UE.out, ← HUT.out] at vi
   exact hK _ _ (hJ.nx hls hT rfl (by exact ⟨_, rfl⟩) (hJ.st.call (by decide) (by decide) (by decide) nt nx no x3 vi) nh)
  ·have dd42 := hdep ⟨17, .data⟩ (by simp) rfl
   have q42 := dd42.2 _ rfl _ rfl
   have h42 := hJ.vals 17 dd42.1
   rw [hT] at h42
   have h42 : (fun zz => ∃ v : Value, zz = .tuple #[v, .int .i64 RE]) (f 17) := h42
   clear dd42
   have hl17 := (hdep ⟨17, .data⟩ (by simp) rfl).1
   have hord : ∀ x ∈ ([(18, 17), (19, 18), (21, 19)] : List (Nat × Nat)), x.1 = 18 → listed.getD x.2 false = true := (by intro x hx he; simp only [List.mem_cons, List.not_mem_nil, or_false] at hx; rcases hx with rfl | rfl | rfl; all_goals first | (exact absurd he (by decide)) | assumption)
   exact wp_mw _ rfl q42 (hK _ _ (hJ.nx hls hT rfl (by exact h42) (hJ.st.tup (by decide) (by decide) (by decide)) hord))
  ·have dd24 := hdep ⟨18, .data⟩ (by simp) rfl
   have q24 := dd24.2 _ rfl _ rfl
   have h24 := hJ.vals 18 dd24.1
   rw [hT] at h24
   have h24 : (fun zz => ∃ v : Value, zz = .tuple #[v, .int .i64 RE]) (f 18) := h24
   clear dd24
   have hl18 := (hdep ⟨18, .data⟩ (by simp) rfl).1
   have hord : ∀ x ∈ ([(18, 17), (19, 18), (21, 19)] : List (Nat × Nat)), x.1 = 19 → listed.getD x.2 false = true := (by intro x hx he; simp only [List.mem_cons, List.not_mem_nil, or_false] at hx; rcases hx with rfl | rfl | rfl; all_goals first | (exact absurd he (by decide)) | assumption)
   have l17 := (hdep ⟨18, .data⟩ (by simp) rfl).1
   obtain ⟨v9, e9, _, e8, _⟩ := hJ.st.2 (hJ.ord (18, 17) (by simp) l17)
   have z9 : f 18 = .tuple #[v9, .int .i64 RE] := (e8 l17).trans e9
   rw [z9] at q24
   rw [gd9] at q24
   clear hsz hdep hout hlat e8 e9
   go_simp
   exact hK _ _ (hJ.nx hls hT rfl (by exact trivial) (hJ.st.ext (by decide) (by decide) (by decide) l17 z9) hord)
  ·have dd24 := hdep ⟨18, .data⟩ (by simp) rfl
   have q24 := dd24.2 _ rfl _ rfl
   have h24 := hJ.vals 18 dd24.1
   rw [hT] at h24
   have h24 : (fun zz => ∃ v : Value, zz = .tuple #[v, .int .i64 RE]) (f 18) := h24
   clear dd24
   obtain ⟨v9, e9⟩ := h24
   rw [e9] at q24
   rw [gd9] at q24
   clear hsz hdep hout hlat e9
   go_simp
   exact hK _ _ (hJ.nx hls hT rfl rfl (hJ.st.step (by decide) (by decide) (by decide) (by decide) (Ex.refl _)) nh)
  ·have dd43 := hdep ⟨19, .data⟩ (by simp) rfl
   have q43 := dd43.2 _ rfl _ rfl
   have hl19 := (hdep ⟨19, .data⟩ (by simp) rfl).1
   have hord : ∀ x ∈ ([(18, 17), (19, 18), (21, 19)] : List (Nat × Nat)), x.1 = 21 → listed.getD x.2 false = true := (by intro x hx he; simp only [List.mem_cons, List.not_mem_nil, or_false] at hx; rcases hx with rfl | rfl | rfl; all_goals first | (exact absurd he (by decide)) | assumption)
   have l18 := (hdep ⟨19, .data⟩ (by simp) rfl).1
   refine wp_asg9 _ rfl (hK _ _ ?_)
   rw [show a.eval (.tmp 43) = f 19 from q43]
   exact hJ.nx hls hT rfl (by exact trivial) (hJ.st.put (by decide) (by decide) (by decide) l18) hord
  have q44 := hJ.iq hT (hdep ⟨20, .data⟩ (by simp) rfl) rfl _ rfl _ rfl
  clear hsz hdep hout hlat
  go_simp
  exact hK _ _ (hJ.na hls hT (hJ.st.step (by decide) (by decide) (by decide) (by decide) (Ex.refl _)))
 intro listed f w2 hall hJ
 have f22 := hJ.fa hT (hall 22 (by simp)) rfl
 have hst := hJ.st
 simp only [putAll, Act.put, List.setIfInBounds_toArray, List.set_cons_zero, List.set_cons_succ, Nat.zero_add, Nat.reduceAdd]
 obtain ⟨v9, _, o9, _, _, a9⟩ := hst.2 (hall 17 (by simp))
 have a9 := a9 (hall 21 (by simp))
 have x9 := hst.1
 clear hst hS0
 rw [a9]
 obtain ⟨r, rfl, rl, ri⟩ := o9
 have RL := Hi rl
 have RI0 := Hi ri
 clear rl ri a9
 rw [f22]
 clear f22
 clear hJ hall hT
 replace BW := Hi (Ex.trans BW.out x9)
 replace Y0 := Hi (Y0.out.ext x9)
 replace C1 := Hi (C1.out.ext x9)
 clear x9
 clear n0 n1
 by_cases hz : RE = 0
 rotate_left
 ·have NZ := Hi hz
  have hb : (RE == 0) = false := by simpa using hz
  go_wp2_with ((with_reducible refine s7b ?_ ?_); (focus rfl))
  refine at9 (by go_simp) fun K0 hK => wp_build _ _ rfl _ built_zrep (hK _ _ ?_)
  clear hK
  go_wp2_with ((with_reducible refine s7b ?_ ?_); (focus rfl))
  refine at9 (by go_simp) fun K0 hK => st_r _ _ g zeroRt rfl rfl rfl zeroRt_ok Y0.out.2 (by rw [List.size_toArray, Rt.len zeroRt_ok]) (fun w9 hd ho => hK _ _ ?_)
  clear hK
  replace BW := Hi (ho.below w.heap.size (by have := HG.out; omega) _ BW.out)
  have YD := Hi hd
  clear hd ho
  go_wp2_with fail
  have HZ : RF = (zeroRc, RE) := by rw [HRF.out, RB8.out, if_neg HN.out, if_pos (by rw [← HRE.out]; exact NZ.out), ← HRE.out]
  rw [HZ]
  exact bodyPost_ret (res_r2 rfl _ _ g rfl zeroRt YD.out) rfl ⟨⟨zeroRt, rfl, ⟨zeroRt_ok, nilB_pn _ _⟩, rfl⟩, fun _ => BW.out, fun e => absurd e (by exact NZ.out)⟩
 have HZ := Hi hz
 subst hz
 go_wp2_with ((with_reducible refine s7b ?_ ?_); (focus rfl))
 refine (rtorep_any r w2 RI0.out (by rw [RL.out, HUT.out]; have := UL.out; omega)).mono ?_
 rintro e w3 ⟨y, rfl, ⟨yo, yn⟩, yc, x3⟩
 rw [RL.out, HUT.out, ← R2E.out] at yc ⊢
 have YO := Hi yo
 have YN := Hi yn
 have YC := Hi yc
 replace BW := Hi (Ex.trans BW.out x3)
 replace Y0 := Hi (Y0.out.ext x3)
 replace C1 := Hi (C1.out.ext x3)
 obtain ⟨E2, hE2⟩ : ∃ x, x = R2.2 := ⟨_, rfl⟩
 rw [← hE2]
 have HE2 := Hi hE2
 clear yo yn yc x3 hE2
 obtain ⟨b2, hb2⟩ : ∃ b, b = decide (E2 = 0) := ⟨_, rfl⟩
 rw [← hb2]
 have HB2 := Hi hb2
 clear hb2
 go_wp2_with ((with_reducible refine s7b ?_ ?_); (focus rfl))
 obtain ⟨i, hi⟩ : ∃ i, i = w3.heap.size := ⟨_, rfl⟩
 have HI := Hi hi
 refine at9 (by go_simp) fun K0 hK => st_r _ _ w3.heap.size y rfl rfl rfl YO.out (Bk.new rfl _ _) (by rfl) (fun w4 hd ho => hK _ _ ?_)
 clear hK
 have x3 : Ex w3 w4 := ho.below w3.heap.size (Nat.le_refl _) w3 (Ex.alloc w3 _)
 replace BW := Hi (Ex.trans BW.out x3)
 replace Y0 := Hi (Y0.out.ext x3)
 replace C1 := Hi (C1.out.ext x3)
 replace YN := Hi (YN.out.ext x3)
 have YI := Hi hd
 rw [← hi] at YI ⊢
 clear hi hd ho x3
 by_cases ez : E2 = 0
 rotate_left
 ·obtain rfl : b2 = false := by rw [HB2.out]; exact decide_eq_false ez
  go_wp2_with fail
  have y8 := YI.out.cells.2.2.2.2.1
  go_quiet (fail)
  obtain ⟨w5, hw5⟩ : ∃ x, x = w4.drewN nq := ⟨_, rfl⟩
  have XQ : Ex w4 w5 := by rw [hw5]; exact ex_drewN w4 nq
  rw [← hw5]
  replace BW := Hi (Ex.trans BW.out XQ)
  replace Y0 := Hi (Y0.out.ext XQ)
  replace C1 := Hi (C1.out.ext XQ)
  replace YI := Hi (YI.out.ext XQ)
  replace YN := Hi (YN.out.ext XQ)
  clear hw5 XQ y8
  go_wp2_with ((with_reducible refine s7b ?_ ?_); (focus rfl))
  refine at9 (by go_simp) fun K0 hK => wp_build _ _ rfl _ built_zrep (hK _ _ ?_)
  clear hK
  go_wp2_with ((with_reducible refine s7b ?_ ?_); (focus rfl))
  refine at9 (by go_simp) fun K0 hK => st_r _ _ g zeroRt rfl rfl rfl zeroRt_ok Y0.out.2 (by rw [List.size_toArray, Rt.len zeroRt_ok]) (fun w9 hd ho => hK _ _ ?_)
  clear hK
  replace BW := Hi (ho.below w.heap.size (by have := HG.out; omega) _ BW.out)
  have YD := Hi hd
  clear hd ho
  go_wp2_with fail
  have HZ : RF = (zeroRc, 12) := by rw [HRF.out, RB8.out, if_neg HN.out, if_neg (by rw [← HRE.out]; exact fun h => h rfl), if_pos (by rw [← HE2.out]; exact ez)]
  rw [HZ]
  exact bodyPost_ret (res_r2 rfl _ _ g rfl zeroRt YD.out) rfl ⟨⟨zeroRt, rfl, ⟨zeroRt_ok, nilB_pn _ _⟩, rfl⟩, fun _ => BW.out, fun e => absurd e (by decide)⟩
 have EZ := Hi ez
 obtain rfl : b2 = true := by rw [HB2.out]; exact decide_eq_true ez
 clear ez
 go_wp2_with fail
 have y8 := YI.out.cells.2.2.2.2.1
 have y9 := YI.out.cells.2.2.2.2.2
 have c0 := C1.out.c0.1
 by_cases hcl : y.client = n
 rotate_left
 ·have QX : Hid (¬ (y.ct.client = n ∧ y.ct.num = (m9 : Int))) := Hi (fun h => hcl h.1)
  have b8 : (y.client == n) = false := by simpa using hcl
  go_quiet (fail)
  obtain ⟨w5, hw5⟩ : ∃ x, x = w4.drewN nq := ⟨_, rfl⟩
  have XQ : Ex w4 w5 := by rw [hw5]; exact ex_drewN w4 nq
  rw [← hw5]
  replace BW := Hi (Ex.trans BW.out XQ)
  replace Y0 := Hi (Y0.out.ext XQ)
  replace C1 := Hi (C1.out.ext XQ)
  replace YI := Hi (YI.out.ext XQ)
  replace YN := Hi (YN.out.ext XQ)
  clear hw5 XQ c0 y8
  go_wp2_with ((with_reducible refine s7b ?_ ?_); (focus rfl))
  refine at9 (by go_simp) fun K0 hK => wp_build _ _ rfl _ built_zrep (hK _ _ ?_)
  clear hK
  go_wp2_with ((with_reducible refine s7b ?_ ?_); (focus rfl))
  refine at9 (by go_simp) fun K0 hK => st_r _ _ g zeroRt rfl rfl rfl zeroRt_ok Y0.out.2 (by rw [List.size_toArray, Rt.len zeroRt_ok]) (fun w9 hd ho => hK _ _ ?_)
  clear hK
  replace BW := Hi (ho.below w.heap.size (by have := HG.out; omega) _ BW.out)
  have YD := Hi hd
  clear hd ho
  go_wp2_with fail
  have HZ : RF = (zeroRc, 12) := by rw [HRF.out, RB8.out, if_neg HN.out, if_neg (by rw [← HRE.out]; exact fun h => h rfl), if_neg (by rw [← HE2.out]; first | exact fun h => h rfl | exact fun h => h EZ.out), if_neg (by rw [← YC.out]; exact fun h => QX.out h)]
  rw [HZ]
  exact bodyPost_ret (res_r2 rfl _ _ g rfl zeroRt YD.out) rfl ⟨⟨zeroRt, rfl, ⟨zeroRt_ok, nilB_pn _ _⟩, rfl⟩, fun _ => BW.out, fun e => absurd e (by decide)⟩
 have QC : Hid (y.ct.client = n) := Hi hcl
 rw [hcl] at y8
 clear hcl
 by_cases hnm : y.num = (m9 : Int)
 rotate_left
 ·have QX : Hid (¬ (y.ct.client = n ∧ y.ct.num = (m9 : Int))) := Hi (fun h => hnm h.2)
  have b9 : (y.num == (m9 : Int)) = false := by simpa using hnm
  go_quiet (fail)
  obtain ⟨w5, hw5⟩ : ∃ x, x = w4.drewN nq := ⟨_, rfl⟩
  have XQ : Ex w4 w5 := by rw [hw5]; exact ex_drewN w4 nq
  rw [← hw5]
  replace BW := Hi (Ex.trans BW.out XQ)
  replace Y0 := Hi (Y0.out.ext XQ)
  replace C1 := Hi (C1.out.ext XQ)
  replace YI := Hi (YI.out.ext XQ)
  replace YN := Hi (YN.out.ext XQ)
  clear hw5 XQ c0 y8
  go_wp2_with ((with_reducible refine s7b ?_ ?_); (focus rfl))
  refine at9 (by go_simp) fun K0 hK => wp_build _ _ rfl _ built_zrep (hK _ _ ?_)
  clear hK
  go_wp2_with ((with_reducible refine s7b ?_ ?_); (focus rfl))
  refine at9 (by go_simp) fun K0 hK => st_r _ _ g zeroRt rfl rfl rfl zeroRt_ok Y0.out.2 (by rw [List.size_toArray, Rt.len zeroRt_ok]) (fun w9 hd ho => hK _ _ ?_)
  clear hK
  replace BW := Hi (ho.below w.heap.size (by have := HG.out; omega) _ BW.out)
  have YD := Hi hd
  clear hd ho
  go_wp2_with fail
  have HZ : RF = (zeroRc, 12) := by rw [HRF.out, RB8.out, if_neg HN.out, if_neg (by rw [← HRE.out]; exact fun h => h rfl), if_neg (by rw [← HE2.out]; first | exact fun h => h rfl | exact fun h => h EZ.out), if_neg (by rw [← YC.out]; exact fun h => QX.out h)]
  rw [HZ]
  exact bodyPost_ret (res_r2 rfl _ _ g rfl zeroRt YD.out) rfl ⟨⟨zeroRt, rfl, ⟨zeroRt_ok, nilB_pn _ _⟩, rfl⟩, fun _ => BW.out, fun e => absurd e (by decide)⟩
 have QN : Hid (y.ct.num = (m9 : Int)) := Hi hnm
 rw [hnm] at y9
 clear hnm
 go_quiet (fail)
 obtain ⟨w5, hw5⟩ : ∃ x, x = w4.drewN nq := ⟨_, rfl⟩
 have XQ : Ex w4 w5 := by rw [hw5]; exact ex_drewN w4 nq
 rw [← hw5]
 replace BW := Hi (Ex.trans BW.out XQ)
 replace Y0 := Hi (Y0.out.ext XQ)
 replace C1 := Hi (C1.out.ext XQ)
 replace YI := Hi (YI.out.ext XQ)
 replace YN := Hi (YN.out.ext XQ)
 clear hw5 XQ c0 y8
 have cR := C1.out.c18
 obtain ⟨gb, cap, CC, hrv, hgB, hgb, hgn, hgc, _⟩ := got_store (w' := w5) (g := 0) (by have := HN.out; omega : m9 < got.length) C1.out.row
 have HRV := Hi hrv
 have HGB := Hi hgb
 rw [hrv] at cR
 have q3 : m9 < got.length := by have := HN.out; omega
 have q4 : (0 : Int) ≤ (m9 : Int) := by omega
 clear hrv hgb hgB
 go_wp2_with ((with_reducible refine s7b ?_ ?_); (focus rfl))
 refine at9 (by go_simp) fun K0 hK => st_got _ _ m9 gb rfl (by rw [HRV.out]; rfl) (by have := HN.out; omega) C1.out.row rfl rfl (fun w6 hd ho => hK _ _ ?_)
 clear hK
 have NE : Hid (gb ≠ C) := Hi (by rintro rfl; exact absurd (Bk.ty HGB.out C1.out.blk) (by decide))
 have K6 : Hid (DI w6 B C n k rv (got.set m9 true)) := Hi ⟨by rw [List.length_set]; exact ho.bk C1.out.blk (Ne.symm NE.out), hd, C1.out.lo, C1.out.kN, C1.out.n0, C1.out.n1, by rw [List.length_set]; exact C1.out.few⟩
 have T6 : Hid (Tc C rv.ownBlock w w6) := Hi ((Ex.tc C _ BW.out).trans (Only.tc ho (Or.inr (by rw [HRV.out]; rfl))) (Or.inl rfl))
 replace YI := Hi (show RB w6 i y from ⟨YI.out.1, ho.bk YI.out.2 (by rintro rfl; exact absurd (Bk.ty HGB.out YI.out.2) (by decide))⟩)
 replace Y0 := Hi (show RB w6 g zeroRt from ⟨Y0.out.1, ho.bk Y0.out.2 (by rintro rfl; exact absurd (Bk.ty HGB.out Y0.out.2) (by decide))⟩)
 replace YN := Hi (YN.out.onlyT ho HGB.out (by decide))
 clear hd ho cR
 go_wp2_with ((with_reducible refine s7b ?_ ?_); (focus rfl))
 refine at9 (by go_simp) fun K0 hK => ld_r _ i y rfl rfl YI.out (hK _ _ ?_)
 clear hK
 go_wp2_with ((with_reducible refine s7b ?_ ?_); (focus rfl))
 refine at9 (by go_simp) fun K0 hK => st_r _ _ g y rfl rfl rfl YI.out.1 Y0.out.2 (by rw [List.size_toArray, Rt.len zeroRt_ok]) (fun w7 hd ho => hK _ _ ?_)
 clear hK
 replace YN := Hi (YN.out.onlyT ho Y0.out.2 (by decide))
 have YD := Hi hd
 replace K6 := Hi (K6.out.only9 ho Y0.out.2 (by decide) (by decide))
 replace T6 := Hi (Tc.only9 T6.out ho (by have := HG.out; omega))
 clear hd ho
 go_wp2_with fail
 have HR : RF = (R2.1, 0) := by
  rw [HRF.out, RB8.out, if_neg HN.out, if_neg (by rw [← HRE.out]; exact fun h => h rfl), if_neg (by rw [← HE2.out]; first | exact fun h => h rfl | exact fun h => h EZ.out), if_pos ⟨by rw [← YC.out]; exact QC.out, by rw [← YC.out]; exact QN.out⟩]
 rw [HR]
 exact bodyPost_ret (res_r2 rfl _ _ g rfl y YD.out) rfl ⟨⟨y, rfl, ⟨YO.out, YN.out⟩, YC.out⟩, fun e => absurd rfl e, fun _ => ⟨K6.out, T6.out⟩⟩
end Go.Proofs.Ytopamplmpfndlaa.Cl
