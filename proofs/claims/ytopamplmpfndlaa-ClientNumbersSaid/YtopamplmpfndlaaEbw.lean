/- Dh -/
import Derived.Test.YtopamplmpfndlaaEbv
import Derived.Deep.DeepCutAuto
set_option maxRecDepth 100000
set_option maxHeartbeats 16000000
namespace Go.Proofs.Ytopamplmpfndlaa.Cl
open Go.RowKit
theorem Ak.ones (x : Ak) : x.C.toArray.all (·.oneCell') = true := all_oneCell_toArray (by
 intro v hv
 unfold Ak.C at hv
 rw [List.mem_append, List.mem_append, List.mem_append] at hv
 rcases hv with ((h | h) | h) | h
 ·simp only [List.mem_cons, List.not_mem_nil, or_false] at h
  rcases h with rfl | rfl | rfl | rfl | rfl | rfl | rfl | rfl | rfl | rfl <;> rfl
 ·have h1 := Rt.ones x.r
  rw [List.all_toArray] at h1
  exact List.all_eq_true.1 h1 v h
 ·obtain rfl := List.mem_singleton.1 h
  rfl
 ·have h1 := Wt.ones x.raw
  rw [List.all_toArray] at h1
  exact List.all_eq_true.1 h1 v h)
theorem AB.lo {w : World} {g : Nat} {x : Ak} (h : AB w g x) : w.cell? ⟨g, 0, none⟩ = some (.int .i64 x.kind) ∧ w.cell? ⟨g, 1, none⟩ = some (.int .i64 x.i) ∧ w.cell? ⟨g, 2, none⟩ = some (.int .i64 x.member) := by
 have hb : Bk w g 33 x.C.toArray := h
 refine ⟨?_, ?_, ?_⟩ <;> (rw [hb.cell]; rfl)
theorem AB.b {w w9 : World} {g : Nat} {x : Ak} (h : AB w g x) (hv : AI w9 x) : w.cell? ⟨g, 20, none⟩ = some x.b.V := by
 have hb : Bk w g 33 x.C.toArray := h
 obtain ⟨a0, a1, a2, a3, e⟩ := len4 hv.r.ok.idN
 rw [hb.cell]
 unfold Ak.C Rt.C
 rw [e]
 rfl
theorem Ak.r_at (x : Ak) : (x.C.drop 10).take x.r.C.length = x.r.C := by
 unfold Ak.C
 rw [List.append_assoc, List.append_assoc]
 show (x.r.C ++ ([x.b.V] ++ x.raw.C)).take x.r.C.length = x.r.C
 exact List.take_left
section
variable {o : Oper} {a : Act} {w : World} {K : Act → World → Prop} {Q : Exit → Act → World → Prop}
theorem ld_arep (x : Operand) (g : Nat) (v : Ak) (ho : o.op = .load 29 x) (ha : a.eval x = .pointer (some ⟨g, 10, none⟩)) {w9 : World} (hv : AI w9 v) (h : AB w g v) (hk : K (a.put o.dst v.r.V) w) : o.wp Try.prog a w K Q := by
 obtain ⟨dd, hd⟩ : ∃ d, Try.prog.underlying 29 = some d ∧ d.isRow = true := ⟨_, Try.underlying29, rfl⟩
 exact wp_ldp (C := v.C) v.r.C x g 10 dd ho ha h (Ak.r_at v) hd.1 hd.2 (by rw [Try.sizeRt, Rt.len hv.r.ok]) hk
theorem st_ask (x y : Operand) (g : Nat) (v : Ak) (ho : o.op = .store 33 x y) (ha : a.eval x = .pointer (some ⟨g, 0, none⟩)) (hy : a.eval y = v.V) {w9 : World} (hv : AI w9 v)
  {Y : Array Value} (hB : Bk w g 33 Y) (hY : Y.size = 30) (hk : ∀ w', AB w' g v → Only g w w' → K (a.put o.dst undef) w') : o.wp Try.prog a w K Q := by
 have hB' : Bk w g 33 Y.toList.toArray := by simpa using hB
 refine wp_stp v.C x y g 0 ho ha hy hB' (by rw [Ak.len hv]; simp [hY]) (by rw [Try.sizeAk, Ak.len hv]) v.ones (fun w' h1 h2 => hk w' ?_ h2)
 have e : Y.toList.take 0 ++ v.C ++ Y.toList.drop (0 + v.C.length) = v.C := by
  rw [List.take_zero, List.nil_append, List.drop_eq_nil_of_le (by rw [Ak.len hv]; simp [hY]), List.append_nil]
 rw [e] at h1; exact h1
end
theorem built_rc (n : Int) (k : List UInt8) (hk : k.length = 16) : Try.prog.built 99 [(0, .int .i64 n), (2, digV k)] = some (rcC n 0 k (.slice none 0 0)).toArray := by
 obtain ⟨_, _, _, _, _, _, _, _, _, _, _, _, _, _, _, _, rfl⟩ := len16 hk
 kernel_rfl
theorem CD.start {w0 w : World} {C : Nat} {n : Int} {k : List UInt8} (x : Ex w0 w) (c : CI w w0.heap.size C n k (.slice none 0 0) []) : CD w0 (w.alloc (.cells (rcC n 0 k (.slice none 0 0)).toArray 99)) C w.heap.size n k (.slice none 0 0) (.slice none 0 0) [] [] :=
 ⟨x.trans (Ex.alloc _ _), c.ext (Ex.alloc _ _), ⟨Bk.new rfl _ _, World.ownsRow_nil _ _ _ _, x.size, c.kN, c.n0, c.n1, Nat.zero_le _⟩, fun g hg => by cases hg⟩
def yF (y : Rt) (n m : Int) (l : Array Bool) (f : Nat → Value) : Rt := ⟨if l.getD 16 false = true then bits .and .i64 y.why 31 else y.why, y.id, if l.getD 18 false = true then y.gen.tmod 100 else y.gen, if l.getD 20 false = true then intOf (f 10) else y.left, y.sec, if l.getD 12 false = true then n else y.client, if l.getD 14 false = true then m else y.num⟩
section
variable {y : Rt} {n m : Int} {l : Array Bool} {f : Nat → Value} {v : Value}
theorem yF_step {i : Nat} (h : i ∉ [10, 12, 14, 16, 18, 20]) : yF y n m (l.setIfInBounds i true) (upd f i v) = yF y n m l f := by
 simp only [List.mem_cons, List.not_mem_nil, or_false, not_or] at h
 obtain ⟨h0, h1, h2, h3, h4, h5⟩ := h
 unfold yF
 rw [gset h1, gset h2, gset h3, gset h4, gset h5, upd_ne _ _ (Ne.symm h0)]
theorem yF_10 (h : l.getD 20 false = false) : yF y n m (l.setIfInBounds 10 true) (upd f 10 v) = yF y n m l f := by
 unfold yF
 rw [gset (show 10 ≠ 12 by decide), gset (show 10 ≠ 14 by decide), gset (show 10 ≠ 16 by decide), gset (show 10 ≠ 18 by decide), gset (show 10 ≠ 20 by decide), h]
 rfl
theorem yF_12 (h : 12 < l.size) : yF y n m (l.setIfInBounds 12 true) (upd f 12 v) = { yF y n m l f with client := n } := by
 unfold yF
 rw [set_new h, gset (show 12 ≠ 14 by decide), gset (show 12 ≠ 16 by decide), gset (show 12 ≠ 18 by decide), gset (show 12 ≠ 20 by decide), upd_ne _ _ (show 10 ≠ 12 by decide)]
 rfl
theorem yF_14 (h : 14 < l.size) : yF y n m (l.setIfInBounds 14 true) (upd f 14 v) = { yF y n m l f with num := m } := by
 unfold yF
 rw [set_new h, gset (show 14 ≠ 12 by decide), gset (show 14 ≠ 16 by decide), gset (show 14 ≠ 18 by decide), gset (show 14 ≠ 20 by decide), upd_ne _ _ (show 10 ≠ 14 by decide)]
 rfl
theorem yF_16 (h : 16 < l.size) : yF y n m (l.setIfInBounds 16 true) (upd f 16 v) = { yF y n m l f with why := bits .and .i64 y.why 31 } := by
 unfold yF
 rw [set_new h, gset (show 16 ≠ 12 by decide), gset (show 16 ≠ 14 by decide), gset (show 16 ≠ 18 by decide), gset (show 16 ≠ 20 by decide), upd_ne _ _ (show 10 ≠ 16 by decide)]
 rfl
theorem yF_18 (h : 18 < l.size) : yF y n m (l.setIfInBounds 18 true) (upd f 18 v) = { yF y n m l f with gen := y.gen.tmod 100 } := by
 unfold yF
 rw [set_new h, gset (show 18 ≠ 12 by decide), gset (show 18 ≠ 14 by decide), gset (show 18 ≠ 16 by decide), gset (show 18 ≠ 20 by decide), upd_ne _ _ (show 10 ≠ 18 by decide)]
 rfl
theorem yF_20 (h : 20 < l.size) : yF y n m (l.setIfInBounds 20 true) (upd f 20 v) = { yF y n m l f with left := intOf (f 10) } := by
 unfold yF
 rw [set_new h, gset (show 20 ≠ 12 by decide), gset (show 20 ≠ 14 by decide), gset (show 20 ≠ 16 by decide), gset (show 20 ≠ 18 by decide), upd_ne _ _ (show 10 ≠ 20 by decide)]
 rfl
theorem yF_none (h : ∀ i, l.getD i false = false) : yF y n m l f = y := by
 unfold yF
 rw [h, h, h, h, h]
 rfl
end
def LX (ic it ix io : Nat) (base : World) (l : Array Bool) (f : Nat → Value) (W : World) : Prop :=
 Ex base W ∧ (l.getD ic false = true → ∃ v : Value, f ic = .tuple #[v, .int .i64 0] ∧ (∃ L : List UInt8, ownU W base.heap.size v L ∧ L.length ≤ 9000) ∧ (l.getD it false = true → f it = f ic) ∧ (l.getD ix false = true → f ix = v) ∧ (l.getD io false = true → f io = v))
section
variable {ic it ix io : Nat} {base : World} {l : Array Bool} {f : Nat → Value} {W W' : World}
theorem LX.start (h0 : ∀ i, l.getD i false = false) (x : Ex base W) : LX ic it ix io base l f W := ⟨x, fun e => absurd e (by rw [h0]; decide)⟩
theorem LX.step (h : LX ic it ix io base l f W) {i : Nat} {v : Value} (hc : i ≠ ic) (ht : i ≠ it) (hx : i ≠ ix) (ho : i ≠ io) (x : Ex W W') : LX ic it ix io base (l.setIfInBounds i true) (upd f i v) W' := by
 unfold LX
 rw [gset hc, gset ht, gset hx, gset ho, upd_ne _ _ (Ne.symm hc), upd_ne _ _ (Ne.symm ht), upd_ne _ _ (Ne.symm hx), upd_ne _ _ (Ne.symm ho)]
 refine ⟨h.1.trans x, fun e => ?_⟩
 obtain ⟨v, a, b, d⟩ := h.2 e
 exact ⟨v, a, b.elim fun L h => ⟨L, x.row h.1, h.2⟩, d⟩
theorem LX.call (h : LX ic it ix io base l f W) (ht : ic ≠ it) (hx : ic ≠ ix) (ho : ic ≠ io) (nt : l.getD it false = false) (nx : l.getD ix false = false) (no : l.getD io false = false) (x : Ex W W') {v : Value} (hv : ∃ L : List UInt8, ownU W' base.heap.size v L ∧ L.length ≤ 9000) :
  LX ic it ix io base (l.setIfInBounds ic true) (upd f ic (.tuple #[v, .int .i64 0])) W' := by
 unfold LX
 rw [gset ht, gset hx, gset ho, upd_same, nt, nx, no]
 exact ⟨h.1.trans x, fun _ => ⟨v, rfl, hv, fun e => (by cases e), fun e => (by cases e), fun e => (by cases e)⟩⟩
theorem LX.tup (h : LX ic it ix io base l f W) (hc : it ≠ ic) (hx : it ≠ ix) (ho : it ≠ io) : LX ic it ix io base (l.setIfInBounds it true) (upd f it (f ic)) W := by
 unfold LX
 rw [gset hc, gset hx, gset ho, upd_same, upd_ne _ _ (Ne.symm hc), upd_ne _ _ (Ne.symm hx), upd_ne _ _ (Ne.symm ho)]
 refine ⟨h.1, fun e => ?_⟩
 obtain ⟨v, a, b, d, k⟩ := h.2 e
 exact ⟨v, a, b, fun _ => rfl, k⟩
theorem LX.ext (h : LX ic it ix io base l f W) (hc : ix ≠ ic) (ht : ix ≠ it) (ho : ix ≠ io) (lt : l.getD it false = true) {z : Value} (hz : f it = .tuple #[z, .int .i64 0]) : LX ic it ix io base (l.setIfInBounds ix true) (upd f ix z) W := by
 unfold LX
 rw [gset hc, gset ht, gset ho, upd_same, upd_ne _ _ (Ne.symm hc), upd_ne _ _ (Ne.symm ht), upd_ne _ _ (Ne.symm ho)]
 refine ⟨h.1, fun e => ?_⟩
 obtain ⟨v, a, b, d, k, m⟩ := h.2 e
 refine ⟨v, a, b, d, fun _ => ?_, m⟩
 have q := d lt
 rw [a, hz] at q
 injection q with q
 have q := congrArg (fun (r : Array Value) => r[0]?) q
 simpa using q
theorem LX.put (h : LX ic it ix io base l f W) (hc : io ≠ ic) (ht : io ≠ it) (hx : io ≠ ix) (lx : l.getD ix false = true) : LX ic it ix io base (l.setIfInBounds io true) (upd f io (f ix)) W := by
 unfold LX
 rw [gset hc, gset ht, gset hx, upd_same, upd_ne _ _ (Ne.symm hc), upd_ne _ _ (Ne.symm ht), upd_ne _ _ (Ne.symm hx)]
 refine ⟨h.1, fun e => ?_⟩
 obtain ⟨v, a, b, d, k, m⟩ := h.2 e
 exact ⟨v, a, b, d, k, fun _ => k lx⟩
end
def LY (ir ic it ix io : Nat) (base : World) (T : List UInt8) (l : Array Bool) (f : Nat → Value) (W : World) : Prop :=
 LX ic it ix io base l f W ∧ (l.getD ir false = true → ownU W base.heap.size (f ir) T)
section
variable {ir ic it ix io : Nat} {base : World} {T : List UInt8} {l : Array Bool} {f : Nat → Value} {W W' : World}
theorem LY.start (h0 : ∀ i, l.getD i false = false) (x : Ex base W) : LY ir ic it ix io base T l f W := ⟨LX.start h0 x, fun e => absurd e (by rw [h0]; decide)⟩
theorem LY.keep (h : LY ir ic it ix io base T l f W) {i : Nat} {v : Value} (hr : i ≠ ir) (x : Ex W W') (k : LX ic it ix io base (l.setIfInBounds i true) (upd f i v) W') : LY ir ic it ix io base T (l.setIfInBounds i true) (upd f i v) W' :=
 ⟨k, fun e => by rw [gset hr] at e; rw [upd_ne _ _ (Ne.symm hr)]; exact ownU_ex x (h.2 e)⟩
theorem LY.row (h : LY ir ic it ix io base T l f W) (hc : ir ≠ ic) (ht : ir ≠ it) (hx : ir ≠ ix) (ho : ir ≠ io) (x : Ex W W') {v : Value} (hv : ownU W' base.heap.size v T) : LY ir ic it ix io base T (l.setIfInBounds ir true) (upd f ir v) W' :=
 ⟨h.1.step hc ht hx ho x, fun _ => by rw [upd_same]; exact hv⟩
end
theorem and7 (x : Int) : 0 ≤ bits .and .i64 x 7 ∧ bits .and .i64 x 7 ≤ 7 := by
 have h : (BitVec.ofInt 64 x &&& BitVec.ofInt 64 7).toNat ≤ 7 := by
  rw [BitVec.toNat_and]
  exact Nat.and_le_right
 have e : bits .and .i64 x 7 = IntKind.wrap .i64 ((BitVec.ofInt 64 x &&& BitVec.ofInt 64 7).toNat : Int) := rfl
 rw [e]
 generalize (BitVec.ofInt 64 x &&& BitVec.ofInt 64 7).toNat = n at h
 rw [IntKind.wrap_i64]
 omega
theorem wf_u8 {n : Int} (h : (Lit.int .u8 n).wf = true) : 0 ≤ n ∧ n < 256 := by
 simp [Lit.wf, IntKind.min, IntKind.max, IntKind.signed, IntKind.bits] at h; omega
theorem makeF_sec {n num now : Int} {k : List UInt8} {W : Wc} : (makeF n num k now W).2.1.sec.length ≤ 64 := by
 unfold makeF
 split
 ·exact Nat.zero_le _
 ·split
  ·exact reqF_sec
  ·exact reqF_sec
theorem gotM_eq {got : List Bool} {R : List UInt8 × Qc × Int} {j : Nat} (h : got.length ≤ j) : (gotM got R).length ≤ j + 1 := Nat.le_trans (gotM_len got R) (by omega)
theorem play22_any (n : Int) (hn9 : -9223372036854775808 ≤ n ∧ n ≤ 9223372036854775807) (k : List UInt8) (hk : k.length = 16) (ad : Option Addr) (cap : Nat) (l : List Ak) (hL : l.length ≤ 9223372036854775807) (w : World) (hin : Akp w ad cap l) : Calls Try.prog 12 #[.int .i64 n, digV k, .slice ad l.length cap] w fun e w' => e = .returned (.bool true) ∧ Ex w w' := by
 obtain ⟨ds, hds⟩ : ∃ ds, ds = (Lib.byteCells k).toArray := ⟨_, rfl⟩
 obtain ⟨lm, hlm⟩ : ∃ m, m = l.length := ⟨_, rfl⟩
 have D0 : Hid (Bk (w.alloc (.cells ds 36)) w.heap.size 36 (Lib.byteCells k).toArray) := Hi (by rw [← hds]; exact Bk.new rfl _ _)
 have BW : Hid (Ex w (w.alloc (.cells ds 36))) := Hi (Ex.alloc _ _)
 have HK := Hi hk
 have HIN := Hi hin
 have LM := Hi hlm
 rw [show (Calls Try.prog 12 #[.int .i64 n, digV k, .slice ad l.length cap] w) = (Calls Try.prog 12 #[.int .i64 n, .agg ds, .slice ad lm cap] w) by rw [hds, hlm]; rfl]
 rw [← hlm] at hL
 clear hds hk hin hlm
 go_enter Try.func12, Try.ntmps12
 go_wp2_with ((with_reducible refine so7 [36] ?_ ?_); (focus rfl))
 (with_reducible refine ⟨?_⟩)
 change wpList _ _ _ _ _ (w.alloc (.cells ds 36))
 generalize (w.alloc (.cells ds 36)) = wz at *
 obtain ⟨g, hg⟩ : ∃ i, i = w.heap.size := ⟨_, rfl⟩
 rw [← hg] at D0 ⊢
 clear hg
 (with_reducible refine at_any ?_ ?_); (focus go_simp); refine fun K0 hK => ld_dgb _ g k rfl rfl HK.out D0.out (hK _ _ ?_)
 clear hK
 go_wp2_with ((with_reducible refine s7c ?_ ?_); (focus rfl))
 refine (new_any n k HK.out wz).mono ?_
 rintro e w1 ⟨x1, ⟨hn, rfl⟩ | ⟨hn, C, rfl, ci⟩⟩
 ·have BW2 := Hi (BW.out.trans x1)
  clear x1
  by_cases h0 : n < 0
  ·go_wp2_with fail
   go_ret
   exact ⟨rfl, BW2.out⟩
  ·have h4 : 4 ≤ n := by omega
   go_wp2_with fail
   go_ret
   exact ⟨rfl, BW2.out⟩
 ·obtain ⟨n0, n1⟩ := hn
  have C0 := Hi ci
  have D1 := Hi (D0.out.ext x1)
  have X1 := Hi x1
  have q9 : ¬ n < 0 := by omega
  have q8 : ¬ 4 ≤ n := by omega
  clear ci x1
  go_wp2_with ((with_reducible refine s7c ?_ ?_); (focus rfl))
  refine at9 (by go_simp) fun K0 hK => ld_dgb _ g k rfl rfl HK.out D1.out (hK _ _ ?_)
  clear hK
  go_wp2_with ((with_reducible refine s7c ?_ ?_); (focus rfl))
  refine at9 (by go_simp) fun K0 hK => wp_build _ _ rfl _ (built_rc n k HK.out) (hK _ _ ?_)
  clear hK
  have S0 := Hi (CD.start X1.out C0.out)
  clear C0 D1
  go_wp2_with fail
  obtain ⟨D, hD⟩ : ∃ i, i = w1.heap.size := ⟨_, rfl⟩
  rw [← hD] at S0 ⊢
  clear hD
  generalize w1.alloc (.cells (rcC n 0 k (.slice none 0 0)).toArray 99) = w2 at S0 ⊢
  go_loopw [10] (fun i wq => ∃ (j : Nat) (rv rd : Value) (got : List Bool), j ≤ lm ∧ j ≤ 50 ∧ got.length ≤ j ∧ i = .int .i64 j ∧ Hid (CD wz wq C D n k rv rd got got)) (fun i _ => 50 - (intOf i).toNat)
  case atStart => exact ⟨0, _, _, [], by omega, by omega, Nat.le_refl _, rfl, S0⟩
  case round =>
   clear S0 X1
   obtain ⟨j, rv, rd, got, hj, hj5, hgl, rfl, S⟩ := hrel
   by_cases hlt : j < lm ∧ j < 50
   ·obtain ⟨h1, h2⟩ := hlt
    obtain ⟨ab, ofs, rfl, ha, hc⟩ := HIN.out.read (by rw [← LM.out]; omega)
    obtain ⟨x, hx⟩ : ∃ x, l[j]? = some x := ⟨_, List.getElem?_eq_getElem (by rw [← LM.out]; exact h1)⟩
    have XI := Hi ((HIN.out.ins j x hx).ext BW.out)
    have XR : Hid (wr.rangeAt ab (ofs + j * 30) x.C) := Hi (fun i u hu => (Below.cell (p := ⟨ab, ofs + j * 30 + i, none⟩) (BW.out.trans S.out.x) ha).trans (hc j x hx i u hu))
    clear hc hx ha
    have q0 : (0 : Int) ≤ (j : Int) := by omega
    have q1 : (j : Int) < (lm : Int) := by omega
    have q2 : (j : Int) < 50 := by omega
    go_wp2_with ((with_reducible refine s7c ?_ ?_); (focus rfl))
    refine at9 (by go_simp) fun K0 hK => ld_askr _ ab (ofs + j * 30) x XI.out rfl rfl XR.out (hK _ _ ?_)
    clear hK
    go_wp2_with ((with_reducible refine s7c ?_ ?_); (focus rfl))
    obtain ⟨i0, hi0⟩ : ∃ i, i = wr.heap.size := ⟨_, rfl⟩
    refine at9 (by go_simp) fun K0 hK => st_ask _ _ wr.heap.size x rfl rfl rfl XI.out (Bk.new rfl _ _) (by rfl) (fun w3 hd ho => hK _ _ ?_)
    clear hK
    have x3 : Ex wr w3 := ho.below wr.heap.size (Nat.le_refl _) wr (Ex.alloc wr _)
    replace S := Hi (S.out.ext x3)
    have A := Hi hd
    rw [← hi0] at A ⊢
    clear hi0 hd ho x3 XR
    obtain ⟨c0, c1, c2⟩ := A.out.lo
    have c3 := A.out.at.1
    have c20 := A.out.b XI.out
    rw [show x.b.V = .slice x.b.ad x.b.l.length x.b.cap from rfl] at c20
    by_cases h45 : x.kind = 4 ∨ x.kind = 5
    ·clear c1 c2 c3 c20
     go_upto_region 18 with ((with_reducible refine s7c ?_ ?_); (focus rfl))
     try simp only [Act.put]
     go_cut [105] (fun s105 wc => ∃ b : Bool, s105 = .bool b ∧ (b = true ↔ x.kind = 4) ∧ Hid (CD wz wc C D n k rv rd got got) ∧ Hid (AB wc i0 x))
     case first =>
      go_wp2_with fail
      go_meet
      case rel => exact ⟨_, rfl, by simp, S, A⟩
     case rest =>
      clear S A c0
      obtain ⟨b, rfl, hb, S, A⟩ := hcut
      go_upto_if 105 with ((with_reducible refine s7c ?_ ?_); (focus rfl))
      go_cut [105] (fun s105 wc => s105 = .bool true ∧ Hid (CD wz wc C D n k rv rd got got) ∧ Hid (AB wc i0 x))
      case first =>
       cases b
       case false =>
        have b5 : (x.kind == 5) = true := by
         rcases h45 with h | h
         ·exact absurd (hb.2 h) (by decide)
         ·simp [h]
        clear hb h45
        go_wp2_with fail
        go_meet
        case rel => exact ⟨rfl, S, A⟩
       case true =>
        go_wp2_with fail
        go_meet
        case rel => exact ⟨rfl, S, A⟩
      case rest =>
       clear S A hb
       obtain ⟨rfl, S, A⟩ := hcut
       obtain ⟨w3, rfl⟩ : ∃ u : World, u = wc := ⟨_, rfl⟩
       obtain ⟨adr, capr, hrd, _, _, _, _⟩ := ownB_form S.out.d.row
       have HRD := Hi hrd
       have gl := hgl
       go_wp2_with fail
       have hS0 : ∀ (listed : Array Bool) (f : Nat → Value), (∀ i, listed.getD i false = false) → (fun (_ : Array Bool) (_ : Nat → Value) (W : World) => Ex w3 W) listed f w3.drew := fun _ _ _ => ex_drewN w3 1
       obtain ⟨T, hT⟩ : ∃ T : List (Value → Prop), T = [(fun zz => zz = .pointer (some ⟨i0, 1, none⟩)), (fun zz => zz = .int .i64 x.i), (fun zz => zz = .pointer (some ⟨D, 0, none⟩)), (fun zz => zz = .pointer (some ⟨D, 0, none⟩)), (fun zz => zz = .pointer (some ⟨D, 18, none⟩)), (fun zz => zz = .slice adr got.length capr), (fun zz => zz = .int .i64 got.length), (fun zz => ∃ m : Int, zz = .int .i64 m ∧ 0 ≤ m ∧ m ≤ got.length), (fun zz => ∃ m : Int, zz = .int .u64 m ∧ 0 ≤ m ∧ m ≤ got.length), (fun zz => ∃ m : Int, zz = .int .u64 m ∧ 0 ≤ m ∧ m ≤ got.length)] := ⟨_, rfl⟩
       refine wp_region_gen (JS T ([] : List (Nat × Nat)) (fun (_ : Array Bool) (_ : Nat → Value) (W : World) => Ex w3 W)) (by kernel_rfl) (by kernel_rfl) (by kernel_rfl) (fitB_spec (by kernel_rfl)) (fun listed f h => JS.start listed f h (hS0 listed f h)) ?_ ?_
       ·intro i o ho
        have hi : i < 10 := (Array.getElem?_eq_some_iff.1 ho).1
        have hi' : i = 0 ∨ i = 1 ∨ i = 2 ∨ i = 3 ∨ i = 4 ∨ i = 5 ∨ i = 6 ∨ i = 7 ∨ i = 8 ∨ i = 9 := by omega
        clear hi
        rcases hi' with rfl | rfl | rfl | rfl | rfl | rfl | rfl | rfl | rfl | rfl
        all_goals (simp only [List.getElem?_toArray, List.getElem?_cons_zero, List.getElem?_cons_succ, Option.some.injEq] at ho; subst ho; intro listed f a wy hJ hsz hls hun hdep hout hlat; first | (rw [if_pos (by rfl)]; intro K hK) | skip)
        ·have q11 := hout 11 ob
         rw [gd9] at q11
         clear hsz hdep hout hlat
         go_simp
         exact hK _ _ (hJ.na hls hT (Ex.trans hJ.st (Ex.refl _)))
        ·have q108 := hJ.iq hT (hdep ⟨0, .data⟩ (by simp) rfl) rfl _ rfl _ rfl
         have c6 := (A.out.ext hJ.st).lo.2.1
         clear hsz hdep hout hlat
         go_simp
         exact hK _ _ (hJ.nx hls hT rfl rfl (Ex.trans hJ.st (Ex.refl _)) nh)
        ·have q9 := hout 9 ob
         exact wp_mw _ rfl q9 (hK _ _ (hJ.nx hls hT rfl rfl (Ex.trans hJ.st (Ex.refl _)) nh))
        ·have q110 := hJ.iq hT (hdep ⟨2, .data⟩ (by simp) rfl) rfl _ rfl _ rfl
         clear hsz hdep hout hlat
         go_simp
         exact hK _ _ (hJ.na hls hT (Ex.trans hJ.st (Ex.refl _)))
        ·have q111 := hJ.iq hT (hdep ⟨3, .data⟩ (by simp) rfl) rfl _ rfl _ rfl
         clear hsz hdep hout hlat
         go_simp
         exact hK _ _ (hJ.na hls hT (Ex.trans hJ.st (Ex.refl _)))
        ·have q112 := hJ.iq hT (hdep ⟨4, .data⟩ (by simp) rfl) rfl _ rfl _ rfl
         have c6 := (S.out.ext hJ.st).d.c18
         rw [HRD.out] at c6
         clear hsz hdep hout hlat
         go_simp
         exact hK _ _ (hJ.nx hls hT rfl rfl (Ex.trans hJ.st (Ex.refl _)) nh)
        ·have q113 := hJ.iq hT (hdep ⟨5, .data⟩ (by simp) rfl) rfl _ rfl _ rfl
         clear hsz hdep hout hlat
         go_simp
         exact hK _ _ (hJ.na hls hT (Ex.trans hJ.st (Ex.refl _)))
        ·have q109 := hJ.iq hT (hdep ⟨1, .data⟩ (by simp) rfl) rfl _ rfl _ rfl
         have q114 := hJ.iq hT (hdep ⟨6, .data⟩ (by simp) rfl) rfl _ rfl _ rfl
         clear hsz hdep hout hlat
         go_simp
         refine (within_any x.i 0 got.length XI.out.i (by decide) (by omega) (by omega) wy).mono ?_
         rintro e w4 ⟨m9, rfl, lo, hi, rfl⟩
         exact hK _ _ (hJ.nx hls hT rfl (by exact ⟨m9, rfl, lo, hi⟩) (Ex.trans hJ.st (Ex.refl _)) nh)
        ·have dd115 := hdep ⟨7, .data⟩ (by simp) rfl
         have q115 := dd115.2 _ rfl _ rfl
         have h115 := hJ.vals 7 dd115.1
         rw [hT] at h115
         have h115 : (fun zz => ∃ m : Int, zz = .int .i64 m ∧ 0 ≤ m ∧ m ≤ got.length) (f 7) := h115
         obtain ⟨m115, e115, lo115, hi115⟩ := h115
         rw [e115] at q115
         clear e115
         clear dd115
         rw [gd9] at q115
         clear hsz hdep hout hlat
         go_simp
         exact hK _ _ (hJ.nx hls hT rfl (by exact ⟨m115, by first | rfl | exact congrArg (Value.int .u64) (by first | omega | (rw [IntKind.wrap_u64]; omega) | (simp [IntKind.wrap]; omega)), lo115, hi115⟩) (Ex.trans hJ.st (Ex.refl _)) nh)
        ·have dd116 := hdep ⟨8, .data⟩ (by simp) rfl
         have q116 := dd116.2 _ rfl _ rfl
         have h116 := hJ.vals 8 dd116.1
         rw [hT] at h116
         have h116 : (fun zz => ∃ m : Int, zz = .int .u64 m ∧ 0 ≤ m ∧ m ≤ got.length) (f 8) := h116
         obtain ⟨m116, e116, lo116, hi116⟩ := h116
         rw [e116] at q116
         clear e116
         clear dd116
         refine wp_asg9 _ rfl (hK _ _ ?_)
         rw [show a.eval (.tmp 116) = .int .u64 m116 from q116]
         exact hJ.nx hls hT rfl (by exact ⟨m116, rfl, lo116, hi116⟩) (Ex.trans hJ.st (Ex.refl _)) nh
       ·intro listed f w4 hall hJ
        have o9 := hJ.vals 9 (hall 9 (by simp))
        rw [hT] at o9
        have o9 : (fun zz => ∃ m : Int, zz = .int .u64 m ∧ 0 ≤ m ∧ m ≤ got.length) (f 9) := o9
        have hst := hJ.st
        simp only [putAll, Act.put, List.setIfInBounds_toArray, List.set_cons_zero, List.set_cons_succ, Nat.zero_add, Nat.reduceAdd]
        have x9 : Ex w3 w4 := hst
        obtain ⟨m, em, m0, m1⟩ := o9
        rw [em]
        clear hst hS0 em
        clear hJ hall hT
        generalize f 0 = y0
        generalize f 1 = y1
        generalize f 2 = y2
        generalize f 3 = y3
        generalize f 4 = y4
        generalize f 5 = y5
        generalize f 6 = y6
        generalize f 7 = y7
        generalize f 8 = y8
        replace S := Hi (S.out.ext x9)
        replace A := Hi (A.out.ext x9)
        clear x9
        go_wp2_with ((with_reducible refine s7c ?_ ?_); (focus rfl))
        refine at9 (by go_simp) fun K0 hK => ld_arep _ i0 x rfl rfl XI.out A.out (hK _ _ ?_)
        clear hK
        go_wp2_with ((with_reducible refine s7c ?_ ?_); (focus rfl))
        obtain ⟨r1, hr1⟩ : ∃ i, i = w4.heap.size := ⟨_, rfl⟩
        refine at9 (by go_simp) fun K0 hK => st_r _ _ w4.heap.size x.r rfl rfl rfl XI.out.r.ok (Bk.new rfl _ _) (by rfl) (fun w5 hd ho => hK _ _ ?_)
        clear hK
        have X5 : Hid (Ex w4 w5) := Hi (ho.below w4.heap.size (Nat.le_refl _) w4 (Ex.alloc w4 _))
        have R1 := Hi hd
        rw [← hr1] at R1 ⊢
        have HR1 := Hi hr1
        clear hr1 hd ho
        go_wp2_with fail
        have hS0 : ∀ (listed : Array Bool) (f : Nat → Value), (∀ i, listed.getD i false = false) → (fun (l : Array Bool) (f : Nat → Value) (W : World) => Ex w4 W ∧ RB W r1 (yF x.r n m l f)) listed f w5.drew := fun l f h => ⟨X5.out.trans (ex_drewN w5 1), by rw [yF_none h]; exact R1.out.ext (ex_drewN w5 1)⟩
        obtain ⟨T, hT⟩ : ∃ T : List (Value → Prop), T = [(fun zz => zz = .int .i64 n), (fun zz => zz = .int .u64 m), (fun zz => zz = .pointer (some ⟨r1, 0, none⟩)), (fun zz => zz = .int .i64 x.r.why), (fun zz => zz = .int .i64 (bits .and .i64 x.r.why 31)), (fun zz => zz = .pointer (some ⟨r1, 5, none⟩)), (fun zz => zz = .int .u64 x.r.gen), (fun zz => zz = .int .u64 (x.r.gen.tmod 100)), (fun zz => zz = .pointer (some ⟨r1, 6, none⟩)), (fun zz => zz = .int .i64 x.r.left), (fun zz => ∃ m : Int, zz = .int .i64 m ∧ 0 ≤ m ∧ m ≤ 32), (fun zz => zz = .pointer (some ⟨r1, 8, none⟩)), (fun _ => True), (fun zz => zz = .pointer (some ⟨r1, 9, none⟩)), (fun _ => True), (fun zz => zz = .pointer (some ⟨r1, 0, none⟩)), (fun _ => True), (fun zz => zz = .pointer (some ⟨r1, 5, none⟩)), (fun _ => True), (fun zz => zz = .pointer (some ⟨r1, 6, none⟩)), (fun _ => True)] := ⟨_, rfl⟩
        refine wp_region_gen (JS T ([(16, 3), (18, 6), (20, 9), (20, 10)] : List (Nat × Nat)) (fun (l : Array Bool) (f : Nat → Value) (W : World) => Ex w4 W ∧ RB W r1 (yF x.r n m l f))) (by kernel_rfl) (by kernel_rfl) (by kernel_rfl) (fitB_spec (by kernel_rfl)) (fun listed f h => JS.start listed f h (hS0 listed f h)) ?_ ?_
        ·intro i o ho
         have hi : i < 21 := (Array.getElem?_eq_some_iff.1 ho).1
         have hi' : i = 0 ∨ i = 1 ∨ i = 2 ∨ i = 3 ∨ i = 4 ∨ i = 5 ∨ i = 6 ∨ i = 7 ∨ i = 8 ∨ i = 9 ∨ i = 10 ∨ i = 11 ∨ i = 12 ∨ i = 13 ∨ i = 14 ∨ i = 15 ∨ i = 16 ∨ i = 17 ∨ i = 18 ∨ i = 19 ∨ i = 20 := by omega
         clear hi
         rcases hi' with rfl | rfl | rfl | rfl | rfl | rfl | rfl | rfl | rfl | rfl | rfl | rfl | rfl | rfl | rfl | rfl | rfl | rfl | rfl | rfl | rfl
         all_goals (simp only [List.getElem?_toArray, List.getElem?_cons_zero, List.getElem?_cons_succ, Option.some.injEq] at ho; subst ho; intro listed f a w2 hJ hsz hls hun hdep hout hlat; first | (rw [if_pos (by rfl)]; intro K hK) | skip)
         ·have q0 := hout 0 ob
          exact wp_mw _ rfl q0 (hK _ _ (hJ.nx hls hT rfl rfl ⟨Ex.trans hJ.st.1 (Ex.refl _), by rw [yF_step (by decide)]; exact hJ.st.2.ext (Ex.refl _)⟩ nh))
         ·have q12 := hout 12 ob
          exact wp_mw _ rfl q12 (hK _ _ (hJ.nx hls hT rfl rfl ⟨Ex.trans hJ.st.1 (Ex.refl _), by rw [yF_step (by decide)]; exact hJ.st.2.ext (Ex.refl _)⟩ nh))
         ·have q13 := hout 13 ob
          rw [gd9] at q13
          clear hsz hdep hout hlat
          go_simp
          exact hK _ _ (hJ.na hls hT ⟨Ex.trans hJ.st.1 (Ex.refl _), by rw [yF_step (by decide)]; exact hJ.st.2.ext (Ex.refl _)⟩)
         ·have q121 := hJ.is hT (hdep ⟨2, .data⟩ (by simp) rfl) rfl _ rfl _ rfl
          have nn := unq hJ.ord 16 3 hun
          rw [gd9] at q121
          have c6 := hJ.st.2.cells.1
          rw [show (yF x.r n m listed f).why = x.r.why from by unfold yF; simp only [nn]; rfl] at c6
          clear hsz hdep hout hlat
          have HS9 := Hi hJ
          have HN9 := Hi nn
          clear nn
          go_simp
          exact hK _ _ (hJ.nx hls hT rfl rfl ⟨Ex.trans hJ.st.1 (Ex.refl _), by rw [yF_step (by decide)]; exact hJ.st.2.ext (Ex.refl _)⟩ nh)
         ·have q122 := hJ.iq hT (hdep ⟨3, .data⟩ (by simp) rfl) rfl _ rfl _ rfl
          clear hsz hdep hout hlat
          go_simp
          exact hK _ _ (hJ.nx hls hT rfl rfl ⟨Ex.trans hJ.st.1 (Ex.refl _), by rw [yF_step (by decide)]; exact hJ.st.2.ext (Ex.refl _)⟩ nh)
         ·have q13 := hout 13 ob
          rw [gd9] at q13
          clear hsz hdep hout hlat
          go_simp
          exact hK _ _ (hJ.na hls hT ⟨Ex.trans hJ.st.1 (Ex.refl _), by rw [yF_step (by decide)]; exact hJ.st.2.ext (Ex.refl _)⟩)
         ·have q124 := hJ.is hT (hdep ⟨5, .data⟩ (by simp) rfl) rfl _ rfl _ rfl
          have nn := unq hJ.ord 18 6 hun
          rw [gd9] at q124
          have c6 := hJ.st.2.cells.2.1
          rw [show (yF x.r n m listed f).gen = x.r.gen from by unfold yF; simp only [nn]; rfl] at c6
          clear hsz hdep hout hlat
          have HS9 := Hi hJ
          have HN9 := Hi nn
          clear nn
          go_simp
          exact hK _ _ (hJ.nx hls hT rfl rfl ⟨Ex.trans hJ.st.1 (Ex.refl _), by rw [yF_step (by decide)]; exact hJ.st.2.ext (Ex.refl _)⟩ nh)
         ·have q125 := hJ.iq hT (hdep ⟨6, .data⟩ (by simp) rfl) rfl _ rfl _ rfl
          clear hsz hdep hout hlat
          go_simp
          exact hK _ _ (hJ.nx hls hT rfl (by first | rfl | exact congrArg (Value.int .u64) (by first | omega | (rw [IntKind.wrap_u64]; omega) | (simp [IntKind.wrap]; omega))) ⟨Ex.trans hJ.st.1 (Ex.refl _), by rw [yF_step (by decide)]; exact hJ.st.2.ext (Ex.refl _)⟩ nh)
         ·have q13 := hout 13 ob
          rw [gd9] at q13
          clear hsz hdep hout hlat
          go_simp
          exact hK _ _ (hJ.na hls hT ⟨Ex.trans hJ.st.1 (Ex.refl _), by rw [yF_step (by decide)]; exact hJ.st.2.ext (Ex.refl _)⟩)
         ·have q127 := hJ.is hT (hdep ⟨8, .data⟩ (by simp) rfl) rfl _ rfl _ rfl
          have nn := unq hJ.ord 20 9 hun
          rw [gd9] at q127
          have c6 := hJ.st.2.cells.2.2.1
          rw [show (yF x.r n m listed f).left = x.r.left from by unfold yF; simp only [nn]; rfl] at c6
          clear hsz hdep hout hlat
          have HS9 := Hi hJ
          have HN9 := Hi nn
          clear nn
          go_simp
          exact hK _ _ (hJ.nx hls hT rfl rfl ⟨Ex.trans hJ.st.1 (Ex.refl _), by rw [yF_step (by decide)]; exact hJ.st.2.ext (Ex.refl _)⟩ nh)
         ·have q128 := hJ.is hT (hdep ⟨9, .data⟩ (by simp) rfl) rfl _ rfl _ rfl
          have n20 := unq hJ.ord 20 10 hun
          rw [gd9] at q128
          clear hsz hdep hout hlat
          go_simp
          refine (within_any x.r.left 0 32 ⟨XI.out.r.ok.left0, XI.out.r.ok.left1⟩ (by decide) (by decide) (by decide) w2).mono ?_
          rintro e w4 ⟨m9, rfl, lo, hi, rfl⟩
          exact hK _ _ (hJ.nx hls hT rfl (by exact ⟨m9, rfl, lo, hi⟩) ⟨hJ.st.1, by rw [yF_10 n20]; exact hJ.st.2⟩ nh)
         ·have q13 := hout 13 ob
          rw [gd9] at q13
          clear hsz hdep hout hlat
          go_simp
          exact hK _ _ (hJ.na hls hT ⟨Ex.trans hJ.st.1 (Ex.refl _), by rw [yF_step (by decide)]; exact hJ.st.2.ext (Ex.refl _)⟩)
         ·have q130 := hJ.is hT (hdep ⟨11, .data⟩ (by simp) rfl) rfl _ rfl _ rfl
          have q119 := hJ.is hT (hdep ⟨0, .data⟩ (by simp) rfl) rfl _ rfl _ rfl
          refine st_rclient (by kernel_rfl) (.tmp 130) (.tmp 119) r1 _ (n) rfl q130 q119 (by omega) (by omega) hJ.st.2 (fun w9 hd ho => ?_)
          exact hK _ _ (hJ.nx hls hT rfl (by exact trivial) ⟨ho.below w4.heap.size (by rw [HR1.out]; exact Nat.le_refl _) _ hJ.st.1, by rw [yF_12 (by rw [hls]; decide)]; exact hd⟩ nh)
         ·have q13 := hout 13 ob
          rw [gd9] at q13
          clear hsz hdep hout hlat
          go_simp
          exact hK _ _ (hJ.na hls hT ⟨Ex.trans hJ.st.1 (Ex.refl _), by rw [yF_step (by decide)]; exact hJ.st.2.ext (Ex.refl _)⟩)
         ·have q131 := hJ.is hT (hdep ⟨13, .data⟩ (by simp) rfl) rfl _ rfl _ rfl
          have q120 := hJ.is hT (hdep ⟨1, .data⟩ (by simp) rfl) rfl _ rfl _ rfl
          refine Go.Proofs.Ytopamplmpfndlaa.st_rnum (by kernel_rfl) (.tmp 131) (.tmp 120) r1 _ (m) rfl q131 q120 m0 (by omega) hJ.st.2 (fun w9 hd ho => ?_)
          exact hK _ _ (hJ.nx hls hT rfl (by exact trivial) ⟨ho.below w4.heap.size (by rw [HR1.out]; exact Nat.le_refl _) _ hJ.st.1, by rw [yF_14 (by rw [hls]; decide)]; exact hd⟩ nh)
         ·have q13 := hout 13 ob
          rw [gd9] at q13
          clear hsz hdep hout hlat
          go_simp
          exact hK _ _ (hJ.na hls hT ⟨Ex.trans hJ.st.1 (Ex.refl _), by rw [yF_step (by decide)]; exact hJ.st.2.ext (Ex.refl _)⟩)
         ·have q132 := hJ.is hT (hdep ⟨15, .data⟩ (by simp) rfl) rfl _ rfl _ rfl
          have q123 := hJ.is hT (hdep ⟨4, .data⟩ (by simp) rfl) rfl _ rfl _ rfl
          have hl3 := (hdep ⟨3, .phase⟩ (by simp) rfl).1
          have hord : ∀ x ∈ ([(16, 3), (18, 6), (20, 9), (20, 10)] : List (Nat × Nat)), x.1 = 16 → listed.getD x.2 false = true := (by intro x hx he; simp only [List.mem_cons, List.not_mem_nil, or_false] at hx; rcases hx with rfl | rfl | rfl | rfl; all_goals first | (exact absurd he (by decide)) | assumption)
          refine st_rwhy (by kernel_rfl) (.tmp 132) (.tmp 123) r1 _ (bits .and .i64 x.r.why 31) rfl q132 q123 (wf_i64 (wf_bits .and .i64 x.r.why 31)).1 (wf_i64 (wf_bits .and .i64 x.r.why 31)).2 hJ.st.2 (fun w9 hd ho => ?_)
          exact hK _ _ (hJ.nx hls hT rfl (by exact trivial) ⟨ho.below w4.heap.size (by rw [HR1.out]; exact Nat.le_refl _) _ hJ.st.1, by rw [yF_16 (by rw [hls]; decide)]; exact hd⟩ hord)
         ·have q13 := hout 13 ob
          rw [gd9] at q13
          clear hsz hdep hout hlat
          go_simp
          exact hK _ _ (hJ.na hls hT ⟨Ex.trans hJ.st.1 (Ex.refl _), by rw [yF_step (by decide)]; exact hJ.st.2.ext (Ex.refl _)⟩)
         ·have q133 := hJ.is hT (hdep ⟨17, .data⟩ (by simp) rfl) rfl _ rfl _ rfl
          have q126 := hJ.is hT (hdep ⟨7, .data⟩ (by simp) rfl) rfl _ rfl _ rfl
          have hl6 := (hdep ⟨6, .phase⟩ (by simp) rfl).1
          have hord : ∀ x ∈ ([(16, 3), (18, 6), (20, 9), (20, 10)] : List (Nat × Nat)), x.1 = 18 → listed.getD x.2 false = true := (by intro x hx he; simp only [List.mem_cons, List.not_mem_nil, or_false] at hx; rcases hx with rfl | rfl | rfl | rfl; all_goals first | (exact absurd he (by decide)) | assumption)
          refine st_rgen (by kernel_rfl) (.tmp 133) (.tmp 126) r1 _ (x.r.gen.tmod 100) rfl q133 q126 (Int.tmod_nonneg _ XI.out.r.ok.gen0) (by have h := Int.tmod_lt_of_pos x.r.gen (show (0 : Int) < 100 by decide); omega) hJ.st.2 (fun w9 hd ho => ?_)
          exact hK _ _ (hJ.nx hls hT rfl (by exact trivial) ⟨ho.below w4.heap.size (by rw [HR1.out]; exact Nat.le_refl _) _ hJ.st.1, by rw [yF_18 (by rw [hls]; decide)]; exact hd⟩ hord)
         ·have q13 := hout 13 ob
          rw [gd9] at q13
          clear hsz hdep hout hlat
          go_simp
          exact hK _ _ (hJ.na hls hT ⟨Ex.trans hJ.st.1 (Ex.refl _), by rw [yF_step (by decide)]; exact hJ.st.2.ext (Ex.refl _)⟩)
         ·have q134 := hJ.is hT (hdep ⟨19, .data⟩ (by simp) rfl) rfl _ rfl _ rfl
          have dd129 := hdep ⟨10, .data⟩ (by simp) rfl
          have q129 := dd129.2 _ rfl _ rfl
          have h129 := hJ.vals 10 dd129.1
          rw [hT] at h129
          have h129 : (fun zz => ∃ m : Int, zz = .int .i64 m ∧ 0 ≤ m ∧ m ≤ 32) (f 10) := h129
          obtain ⟨m129, e129, lo129, hi129⟩ := h129
          rw [e129] at q129
          clear dd129
          have hl9 := (hdep ⟨9, .phase⟩ (by simp) rfl).1
          have hl10 := (hdep ⟨10, .data⟩ (by simp) rfl).1
          have hord : ∀ x ∈ ([(16, 3), (18, 6), (20, 9), (20, 10)] : List (Nat × Nat)), x.1 = 20 → listed.getD x.2 false = true := (by intro x hx he; simp only [List.mem_cons, List.not_mem_nil, or_false] at hx; rcases hx with rfl | rfl | rfl | rfl; all_goals first | (exact absurd he (by decide)) | assumption)
          have ei : intOf (f 10) = m129 := by rw [e129]; rfl
          refine st_rleft (by kernel_rfl) (.tmp 134) (.tmp 129) r1 _ m129 rfl q134 q129 (by omega) (by omega) hJ.st.2 (fun w9 hd ho => ?_)
          rw [← ei] at hd
          exact hK _ _ (hJ.nx hls hT rfl (by exact trivial) ⟨ho.below w4.heap.size (by rw [HR1.out]; exact Nat.le_refl _) _ hJ.st.1, by rw [yF_20 (by rw [hls]; decide)]; exact hd⟩ hord)
        ·intro listed f w6 hall hJ
         have hst := hJ.st
         simp only [putAll, Act.put, List.setIfInBounds_toArray, List.set_cons_zero, List.set_cons_succ, Nat.zero_add, Nat.reduceAdd]
         obtain ⟨za8, hza8⟩ : ∃ y, y = yF x.r n m listed f := ⟨_, rfl⟩
         have x9 := hst.1
         have R2 := Hi hst.2
         rw [← hza8] at R2
         have YS : Hid (za8.sec = x.r.sec) := Hi (by rw [hza8]; rfl)
         have YN : Hid (za8.num = m) := Hi (by rw [hza8]; unfold yF; rw [hall 14 (by simp)]; rfl)
         have YC : Hid (za8.client = n) := Hi (by rw [hza8]; unfold yF; rw [hall 12 (by simp)]; rfl)
         clear hst hS0 hza8 R1 X5
         clear hJ hall hT
         generalize f 0 = y0
         generalize f 1 = y1
         generalize f 2 = y2
         generalize f 3 = y3
         generalize f 4 = y4
         generalize f 5 = y5
         generalize f 6 = y6
         generalize f 7 = y7
         generalize f 8 = y8
         generalize f 9 = y9
         generalize f 10 = y10
         generalize f 11 = y11
         generalize f 13 = y13
         generalize f 15 = y15
         generalize f 17 = y17
         generalize f 19 = y19
         have S4 := S
         have A4 := A
         have X6 := Hi x9
         replace S := Hi (S.out.ext x9)
         replace A := Hi (A.out.ext x9)
         clear x9
         have c7 := R2.out.cells.2.2.2.1
         rw [YS.out, show x.r.sec.V = .slice x.r.sec.ad x.r.sec.l.length x.r.sec.cap from rfl] at c7
         go_wp2_with ((with_reducible refine s7c ?_ ?_); (focus rfl))
         refine (cut_any x.r.sec 64 (by decide) (by decide) (Nat.le_trans XI.out.rN (by decide)) w6 (XI.out.r.sec.ext S.out.x)).mono ?_
         rintro e w7 ⟨rfl, rfl⟩
         clear c7
         go_wp2_with ((with_reducible refine s7c ?_ ?_); (focus rfl))
         obtain ⟨cz, hcz⟩ : ∃ z, z = Pt.mk x.r.sec.ad x.r.sec.cap (x.r.sec.l.take 64) := ⟨_, rfl⟩
         rw [← hcz]
         refine at9 (by go_simp) fun K0 hK => st_rsec (by kernel_rfl) _ _ r1 za8 cz rfl rfl rfl R2.out (fun w7 hd ho => hK _ _ ?_)
         clear hK
         have x7 : Ex w4 w7 := ho.below w4.heap.size (by rw [HR1.out]; exact Nat.le_refl _) _ X6.out
         obtain ⟨za7, hza7⟩ : ∃ y : Rt, y = { za8 with sec := cz } := ⟨_, rfl⟩
         rw [← hza7] at hd
         have R3 := Hi hd
         have Y7 : Hid (za7.sec = cz ∧ za7.num = m ∧ za7.client = n) := Hi (by rw [hza7]; exact ⟨rfl, YN.out, YC.out⟩)
         have CZL : Hid (cz.l.length ≤ 64) := Hi (by rw [hcz]; show (x.r.sec.l.take 64).length ≤ 64; rw [List.length_take]; omega)
         have CZI : Hid (cz.In wz wz.heap.size) := Hi (by rw [hcz]; exact bcut_in XI.out.r.sec 64)
         have S3 := Hi (S4.out.ext x7)
         have A3 := Hi (A4.out.ext x7)
         have X7 := Hi x7
         clear hd ho x7 hcz hza7 YS YN YC R2
         have c3 := A3.out.at.1
         have b0 := XI.out.turn.1
         have b1 := XI.out.turn.2
         have t0 : -5 < x.turn.tmod 5 := by have h := Int.tmod_lt_of_pos (-x.turn) (show (0 : Int) < 5 by decide); rw [Int.neg_tmod] at h; omega
         have t1 : x.turn.tmod 5 < 5 := Int.tmod_lt_of_pos x.turn (by decide)
         have mb : m < 1000 := by omega
         go_upto_region 24 with ((with_reducible refine s7c ?_ ?_); (focus rfl))
         try simp only [Act.put]
         go_cut [142] (fun s142 wc => ∃ b : Bool, s142 = .bool b ∧ Hid (CD wz wc C D n k rv rd got got) ∧ Hid (AB wc i0 x) ∧ Hid (RB wc r1 za7) ∧ Hid (Ex w4 wc))
         case first =>
          go_wp2_with fail
          go_meet
          case rel => exact ⟨_, rfl, S3, A3, R3, X7⟩
         case rest =>
          clear S3 A3 R3 X7 c3 t0 t1 b0 b1
          obtain ⟨b, rfl, S3, A3, R3, X7⟩ := hcut
          go_upto_if 142 with ((with_reducible refine s7c ?_ ?_); (focus rfl))
          go_cut [] (fun wc => ∃ za9 : Rt, Hid (RB wc r1 za9) ∧ Hid (za9.sec = cz) ∧ Hid (CD wz wc C D n k rv rd got got) ∧ Hid (AB wc i0 x))
          case first =>
           cases b
           case false =>
            go_wp2_with fail
            go_meet
            case rel => exact ⟨za7, R3, Hi Y7.out.1, S3, A3⟩
           case true =>
            have d8 := R3.out.cells.2.2.2.2.1
            have d9 := R3.out.cells.2.2.2.2.2
            rw [Y7.out.2.2] at d8
            rw [Y7.out.2.1] at d9
            go_wp2_with ((with_reducible refine s7c ?_ ?_); (focus rfl))
            refine at9 (by go_simp) fun K0 hK => Go.Proofs.Ytopamplmpfndlaa.st_rnum (by kernel_rfl) _ _ r1 za7 (m + 1) rfl rfl (by first | rfl | exact congrArg (Value.int .u64) (by first | omega | (rw [IntKind.wrap_u64]; omega) | (simp [IntKind.wrap]; omega))) (by omega) (by omega) R3.out (fun wa hd ho => hK _ _ ?_)
            clear hK
            have xa : Ex w4 wa := ho.below w4.heap.size (by rw [HR1.out]; exact Nat.le_refl _) _ X7.out
            have RA9 := Hi hd
            have XA := Hi xa
            clear hd ho xa
            go_wp2_with ((with_reducible refine s7c ?_ ?_); (focus rfl))
            refine at9 (by go_simp) fun K0 hK => st_rclient (by kernel_rfl) _ _ r1 _ (bits .and .i64 n 1) rfl rfl rfl (wf_i64 (wf_bits .and .i64 n 1)).1 (wf_i64 (wf_bits .and .i64 n 1)).2 RA9.out (fun w8 hd ho => hK _ _ ?_)
            clear hK
            have xa : Ex w4 w8 := ho.below w4.heap.size (by rw [HR1.out]; exact Nat.le_refl _) _ XA.out
            obtain ⟨za9, hza9⟩ : ∃ y : Rt, y = { za7 with num := m + 1, client := bits .and .i64 n 1 } := ⟨_, rfl⟩
            have R9 : Hid (RB w8 r1 za9) := Hi (by rw [hza9]; exact hd)
            have Y9 : Hid (za9.sec = cz) := Hi (by rw [hza9]; exact Y7.out.1)
            replace S3 := Hi (S4.out.ext xa)
            replace A3 := Hi (A4.out.ext xa)
            clear hd ho xa hza9 RA9 XA
            go_wp2_with fail
            go_meet
            case rel => exact ⟨za9, R9, Y9, S3, A3⟩
          case rest =>
           clear R3 X7 S A S3 A3
           obtain ⟨za9, R9, Y9, S3, A3⟩ := hcut
           obtain ⟨w8, rfl⟩ : ∃ u : World, u = wc := ⟨_, rfl⟩
           go_wp2_with fail
           have hS0 : ∀ (listed : Array Bool) (f : Nat → Value), (∀ i, listed.getD i false = false) → (LY 14 15 16 17 19 w8 (repB za9.ct)) listed f w8.drew := fun listed f h0 => LY.start h0 (ex_drewN w8 1)
           obtain ⟨T, hT⟩ : ∃ T : List (Value → Prop), T = [(fun zz => zz = .int .i64 n), (fun zz => zz = .int .u64 m), (fun zz => zz = digV k), (fun zz => zz = digV (keyL n m k)), (fun zz => zz = .int .u64 m), (fun zz => zz = .int .i64 n), (fun zz => zz = .int .i64 (128 + n)), (fun zz => zz = .pointer (some ⟨i0, 3, none⟩)), (fun zz => zz = .int .i64 x.turn), (fun zz => ∃ z : Int, zz = .int .i64 z ∧ 0 ≤ z ∧ z ≤ 7), (fun zz => ∃ z : Int, zz = .int .i64 z ∧ 0 ≤ z ∧ z ≤ 1), (fun zz => ∃ z : Int, zz = .int .i64 z ∧ 128 ≤ z ∧ z ≤ 132), (fun zz => ∃ tz : Int, zz = .int .u8 tz ∧ 0 ≤ tz ∧ tz < 256), (fun zz => zz = za9.V), (fun _ => True), (fun zz => ∃ v : Value, zz = .tuple #[v, .int .i64 0]), (fun zz => ∃ v : Value, zz = .tuple #[v, .int .i64 0]), (fun _ => True), (fun zz => zz = .int .i64 0), (fun _ => True), (fun zz => zz = .int .i64 0)] := ⟨_, rfl⟩
           refine wp_region_gen (JS T ([(16, 15), (17, 16), (19, 17)] : List (Nat × Nat)) (LY 14 15 16 17 19 w8 (repB za9.ct))) (by kernel_rfl) (by kernel_rfl) (by kernel_rfl) (fitB_spec (by kernel_rfl)) (fun listed f h => JS.start listed f h (hS0 listed f h)) ?_ ?_
           ·intro i o ho
            have hi : i < 21 := (Array.getElem?_eq_some_iff.1 ho).1
            have hi' : i = 0 ∨ i = 1 ∨ i = 2 ∨ i = 3 ∨ i = 4 ∨ i = 5 ∨ i = 6 ∨ i = 7 ∨ i = 8 ∨ i = 9 ∨ i = 10 ∨ i = 11 ∨ i = 12 ∨ i = 13 ∨ i = 14 ∨ i = 15 ∨ i = 16 ∨ i = 17 ∨ i = 18 ∨ i = 19 ∨ i = 20 := by omega
            clear hi
            rcases hi' with rfl | rfl | rfl | rfl | rfl | rfl | rfl | rfl | rfl | rfl | rfl | rfl | rfl | rfl | rfl | rfl | rfl | rfl | rfl | rfl | rfl
            all_goals (simp only [List.getElem?_toArray, List.getElem?_cons_zero, List.getElem?_cons_succ, Option.some.injEq] at ho; subst ho; intro listed f a wy hJ hsz hls hun hdep hout hlat; first | (rw [if_pos (by rfl)]; intro K hK) | skip)
            ·have q0 := hout 0 ob
             exact wp_mw _ rfl q0 (hK _ _ (hJ.nx hls hT rfl rfl (hJ.st.keep (by decide) (Ex.refl _) (hJ.st.1.step (by decide) (by decide) (by decide) (by decide) (Ex.refl _))) nh))
            ·have q12 := hout 12 ob
             exact wp_mw _ rfl q12 (hK _ _ (hJ.nx hls hT rfl rfl (hJ.st.keep (by decide) (Ex.refl _) (hJ.st.1.step (by decide) (by decide) (by decide) (by decide) (Ex.refl _))) nh))
            ·have q4 := hout 4 ob
             exact ld_dgb (.tmp 4) g k rfl q4 HK.out (D0.out.ext (S3.out.x.trans hJ.st.1.1)) (hK _ _ (hJ.nx hls hT rfl rfl (hJ.st.keep (by decide) (Ex.refl _) (hJ.st.1.step (by decide) (by decide) (by decide) (by decide) (Ex.refl _))) nh))
            ·have q152 := hJ.iq hT (hdep ⟨0, .data⟩ (by simp) rfl) rfl _ rfl _ rfl
             have q153 := hJ.iq hT (hdep ⟨1, .data⟩ (by simp) rfl) rfl _ rfl _ rfl
             have q154 := hJ.iq hT (hdep ⟨2, .data⟩ (by simp) rfl) rfl _ rfl _ rfl
             clear hsz hdep hout hlat
             go_simp
             refine (rkeyof_any n m m0 (by omega) k HK.out wy).mono ?_
             rintro e w4 ⟨rfl, x3⟩
             exact hK _ _ (hJ.nx hls hT rfl rfl (hJ.st.keep (by decide) x3 (hJ.st.1.step (by decide) (by decide) (by decide) (by decide) x3)) nh)
            ·have q12 := hout 12 ob
             exact wp_mw _ rfl q12 (hK _ _ (hJ.nx hls hT rfl rfl (hJ.st.keep (by decide) (Ex.refl _) (hJ.st.1.step (by decide) (by decide) (by decide) (by decide) (Ex.refl _))) nh))
            ·have q0 := hout 0 ob
             exact wp_mw _ rfl q0 (hK _ _ (hJ.nx hls hT rfl rfl (hJ.st.keep (by decide) (Ex.refl _) (hJ.st.1.step (by decide) (by decide) (by decide) (by decide) (Ex.refl _))) nh))
            ·have q157 := hJ.iq hT (hdep ⟨5, .data⟩ (by simp) rfl) rfl _ rfl _ rfl
             clear hsz hdep hout hlat
             go_simp
             exact hK _ _ (hJ.nx hls hT rfl (by exact congrArg (Value.int .i64) (by first | omega | (unfold IntKind.wrap; simp [IntKind.bits, IntKind.signed]; omega) | (simp [IntKind.wrap]; omega))) (hJ.st.keep (by decide) (Ex.refl _) (hJ.st.1.step (by decide) (by decide) (by decide) (by decide) (Ex.refl _))) nh)
            ·have q11 := hout 11 ob
             rw [gd9] at q11
             clear hsz hdep hout hlat
             go_simp
             exact hK _ _ (hJ.na hls hT (hJ.st.keep (by decide) (Ex.refl _) (hJ.st.1.step (by decide) (by decide) (by decide) (by decide) (Ex.refl _))))
            ·have q159 := hJ.iq hT (hdep ⟨7, .data⟩ (by simp) rfl) rfl _ rfl _ rfl
             have c6 := (A3.out.ext hJ.st.1.1).at.1
             clear hsz hdep hout hlat
             go_simp
             exact hK _ _ (hJ.nx hls hT rfl rfl (hJ.st.keep (by decide) (Ex.refl _) (hJ.st.1.step (by decide) (by decide) (by decide) (by decide) (Ex.refl _))) nh)
            ·have q160 := hJ.iq hT (hdep ⟨8, .data⟩ (by simp) rfl) rfl _ rfl _ rfl
             clear hsz hdep hout hlat
             go_simp
             exact hK _ _ (hJ.nx hls hT rfl (by exact ⟨_, rfl, (and7 x.turn).1, (and7 x.turn).2⟩) (hJ.st.keep (by decide) (Ex.refl _) (hJ.st.1.step (by decide) (by decide) (by decide) (by decide) (Ex.refl _))) nh)
            ·have dd161 := hdep ⟨9, .data⟩ (by simp) rfl
             have q161 := dd161.2 _ rfl _ rfl
             have h161 := hJ.vals 9 dd161.1
             rw [hT] at h161
             have h161 : (fun zz => ∃ z : Int, zz = .int .i64 z ∧ 0 ≤ z ∧ z ≤ 7) (f 9) := h161
             obtain ⟨z161, e161, zl161, zh161⟩ := h161
             rw [e161] at q161
             clear e161
             clear dd161
             rw [gd9] at q161
             clear hsz hdep hout hlat
             have td : z161.tdiv 7 = z161 / 7 := Int.tdiv_eq_ediv_of_nonneg zl161
             go_simp
             exact hK _ _ (hJ.nx hls hT rfl (by exact ⟨_, rfl, by first | omega | (rw [IntKind.wrap_i64]; omega), by first | omega | (rw [IntKind.wrap_i64]; omega)⟩) (hJ.st.keep (by decide) (Ex.refl _) (hJ.st.1.step (by decide) (by decide) (by decide) (by decide) (Ex.refl _))) nh)
            ·have q158 := hJ.is hT (hdep ⟨6, .data⟩ (by simp) rfl) rfl _ rfl _ rfl
             have dd162 := hdep ⟨10, .data⟩ (by simp) rfl
             have q162 := dd162.2 _ rfl _ rfl
             have h162 := hJ.vals 10 dd162.1
             rw [hT] at h162
             have h162 : (fun zz => ∃ z : Int, zz = .int .i64 z ∧ 0 ≤ z ∧ z ≤ 1) (f 10) := h162
             obtain ⟨z162, e162, zl162, zh162⟩ := h162
             rw [e162] at q162
             clear e162
             clear dd162
             rw [gd9] at q158
             rw [gd9] at q162
             clear hsz hdep hout hlat
             go_simp
             exact hK _ _ (hJ.nx hls hT rfl (by exact ⟨_, rfl, by first | omega | (rw [IntKind.wrap_i64]; omega), by first | omega | (rw [IntKind.wrap_i64]; omega)⟩) (hJ.st.keep (by decide) (Ex.refl _) (hJ.st.1.step (by decide) (by decide) (by decide) (by decide) (Ex.refl _))) nh)
            ·have dd163 := hdep ⟨11, .data⟩ (by simp) rfl
             have q163 := dd163.2 _ rfl _ rfl
             have h163 := hJ.vals 11 dd163.1
             rw [hT] at h163
             have h163 : (fun zz => ∃ z : Int, zz = .int .i64 z ∧ 128 ≤ z ∧ z ≤ 132) (f 11) := h163
             obtain ⟨z163, e163, zl163, zh163⟩ := h163
             rw [e163] at q163
             clear e163
             clear dd163
             rw [gd9] at q163
             clear hsz hdep hout hlat
             go_simp
             exact hK _ _ (hJ.nx hls hT rfl (by exact ⟨_, rfl, by first | omega | exact (wf_u8 (wf_wrap .u8 _)).1, by first | omega | exact (wf_u8 (wf_wrap .u8 _)).2⟩) (hJ.st.keep (by decide) (Ex.refl _) (hJ.st.1.step (by decide) (by decide) (by decide) (by decide) (Ex.refl _))) nh)
            ·have q13 := hout 13 ob
             exact ld_r (.tmp 13) r1 za9 rfl q13 (R9.out.ext hJ.st.1.1) (hK _ _ (hJ.nx hls hT rfl rfl (hJ.st.keep (by decide) (Ex.refl _) (hJ.st.1.step (by decide) (by decide) (by decide) (by decide) (Ex.refl _))) nh))
            ·have q165 := hJ.iq hT (hdep ⟨13, .data⟩ (by simp) rfl) rfl _ rfl _ rfl
             clear hsz hdep hout hlat
             go_simp
             refine (rrep_any za9 wy ⟨R9.out.1, by rw [Y9.out]; exact CZI.out.ext (S3.out.x.trans hJ.st.1.1)⟩ (by rw [Y9.out]; exact Nat.le_trans CZL.out (by decide))).mono ?_
             rintro e w4 ⟨v, rfl, vo, x3⟩
             exact hK _ _ (hJ.nx hls hT rfl (by exact trivial) (hJ.st.row (by decide) (by decide) (by decide) (by decide) x3 (ownU_less vo hJ.st.1.1.size)) nh)
            ·have q155 := hJ.is hT (hdep ⟨3, .data⟩ (by simp) rfl) rfl _ rfl _ rfl
             have q156 := hJ.is hT (hdep ⟨4, .data⟩ (by simp) rfl) rfl _ rfl _ rfl
             have dd164 := hdep ⟨12, .data⟩ (by simp) rfl
             have q164 := dd164.2 _ rfl _ rfl
             have h164 := hJ.vals 12 dd164.1
             rw [hT] at h164
             have h164 : (fun zz => ∃ tz : Int, zz = .int .u8 tz ∧ 0 ≤ tz ∧ tz < 256) (f 12) := h164
             obtain ⟨tz164, e164, tl164, tu164⟩ := h164
             rw [e164] at q164
             clear dd164
             have dd166 := hdep ⟨14, .data⟩ (by simp) rfl
             have q166 := dd166.2 _ rfl _ rfl
             have nt := unq hJ.ord 16 15 hun
             have nx : listed.getD 17 false = false := by
              cases hc : listed.getD 17 false with
              | false => rfl
              | true => exact absurd (hJ.ord (17, 16) (by simp) hc) (by rw [nt]; decide)
             have no : listed.getD 19 false = false := by
              cases hc : listed.getD 19 false with
              | false => rfl
              | true => exact absurd (hJ.ord (19, 17) (by simp) hc) (by rw [nx]; decide)
             have l18 := (hdep ⟨14, .data⟩ (by simp) rfl).1
             obtain ⟨p9, e9, n9, i9', _⟩ := own_pt (hJ.st.2 l18)
             rw [e9] at q166
             clear e164
             rw [gd9] at q155
             rw [gd9] at q156
             rw [gd9] at q164
             rw [gd9] at q166
             clear hsz hdep hout hlat
             go_simp
             refine (rclose9_any (keyL n m k) (keyL_len _ _ _) m m0 (by omega) tz164 tl164 tu164 p9 wy i9' (by rw [n9]; exact repB_len R9.out.1.idN (by show za9.sec.l.length ≤ 64; rw [Y9.out]; exact CZL.out))).mono ?_
             rintro e w4 ⟨v, rfl, vo, x3⟩
             exact hK _ _ (hJ.nx hls hT rfl (by exact ⟨_, rfl⟩) (hJ.st.keep (by decide) x3 (hJ.st.1.call (by decide) (by decide) (by decide) nt nx no x3 ⟨_, ofSm_own (Sm.own_less vo hJ.st.1.1.size), by rw [Sm.closeL_len, n9]; have h := repB_len R9.out.1.idN (c := za9.ct) (by show za9.sec.l.length ≤ 64; rw [Y9.out]; exact CZL.out); omega⟩)) nh)
            ·have dd167 := hdep ⟨15, .data⟩ (by simp) rfl
             have q167 := dd167.2 _ rfl _ rfl
             have h167 := hJ.vals 15 dd167.1
             rw [hT] at h167
             have h167 : (fun zz => ∃ v : Value, zz = .tuple #[v, .int .i64 0]) (f 15) := h167
             clear dd167
             have hl15 := (hdep ⟨15, .data⟩ (by simp) rfl).1
             have hord : ∀ x ∈ ([(16, 15), (17, 16), (19, 17)] : List (Nat × Nat)), x.1 = 16 → listed.getD x.2 false = true := (by intro x hx he; simp only [List.mem_cons, List.not_mem_nil, or_false] at hx; rcases hx with rfl | rfl | rfl; all_goals first | (exact absurd he (by decide)) | assumption)
             exact wp_mw _ rfl q167 (hK _ _ (hJ.nx hls hT rfl (by exact h167) (hJ.st.keep (by decide) (Ex.refl _) (hJ.st.1.tup (by decide) (by decide) (by decide))) hord))
            ·have dd151 := hdep ⟨16, .data⟩ (by simp) rfl
             have q151 := dd151.2 _ rfl _ rfl
             have h151 := hJ.vals 16 dd151.1
             rw [hT] at h151
             have h151 : (fun zz => ∃ v : Value, zz = .tuple #[v, .int .i64 0]) (f 16) := h151
             clear dd151
             have hl16 := (hdep ⟨16, .data⟩ (by simp) rfl).1
             have hord : ∀ x ∈ ([(16, 15), (17, 16), (19, 17)] : List (Nat × Nat)), x.1 = 17 → listed.getD x.2 false = true := (by intro x hx he; simp only [List.mem_cons, List.not_mem_nil, or_false] at hx; rcases hx with rfl | rfl | rfl; all_goals first | (exact absurd he (by decide)) | assumption)
             have l17 := (hdep ⟨16, .data⟩ (by simp) rfl).1
             obtain ⟨v9, e9, _, e8, _⟩ := hJ.st.1.2 (hJ.ord (16, 15) (by simp) l17)
             have z9 : f 16 = .tuple #[v9, .int .i64 0] := (e8 l17).trans e9
             rw [z9] at q151
             rw [gd9] at q151
             clear hsz hdep hout hlat e8 e9
             go_simp
             exact hK _ _ (hJ.nx hls hT rfl (by exact trivial) (hJ.st.keep (by decide) (Ex.refl _) (hJ.st.1.ext (by decide) (by decide) (by decide) l17 z9)) hord)
            ·have dd151 := hdep ⟨16, .data⟩ (by simp) rfl
             have q151 := dd151.2 _ rfl _ rfl
             have h151 := hJ.vals 16 dd151.1
             rw [hT] at h151
             have h151 : (fun zz => ∃ v : Value, zz = .tuple #[v, .int .i64 0]) (f 16) := h151
             clear dd151
             obtain ⟨v9, e9⟩ := h151
             rw [e9] at q151
             rw [gd9] at q151
             clear hsz hdep hout hlat e9
             go_simp
             exact hK _ _ (hJ.nx hls hT rfl rfl (hJ.st.keep (by decide) (Ex.refl _) (hJ.st.1.step (by decide) (by decide) (by decide) (by decide) (Ex.refl _))) nh)
            ·have dd168 := hdep ⟨17, .data⟩ (by simp) rfl
             have q168 := dd168.2 _ rfl _ rfl
             have hl17 := (hdep ⟨17, .data⟩ (by simp) rfl).1
             have hord : ∀ x ∈ ([(16, 15), (17, 16), (19, 17)] : List (Nat × Nat)), x.1 = 19 → listed.getD x.2 false = true := (by intro x hx he; simp only [List.mem_cons, List.not_mem_nil, or_false] at hx; rcases hx with rfl | rfl | rfl; all_goals first | (exact absurd he (by decide)) | assumption)
             have l18 := (hdep ⟨17, .data⟩ (by simp) rfl).1
             refine wp_asg9 _ rfl (hK _ _ ?_)
             rw [show a.eval (.tmp 168) = f 17 from q168]
             exact hJ.nx hls hT rfl (by exact trivial) (hJ.st.keep (by decide) (Ex.refl _) (hJ.st.1.put (by decide) (by decide) (by decide) l18)) hord
            ·have q169 := hJ.iq hT (hdep ⟨18, .data⟩ (by simp) rfl) rfl _ rfl _ rfl
             clear hsz hdep hout hlat
             go_simp
             exact hK _ _ (hJ.na hls hT (hJ.st.keep (by decide) (Ex.refl _) (hJ.st.1.step (by decide) (by decide) (by decide) (by decide) (Ex.refl _))))
           ·intro listed f wy hall hJ
            have f20 := hJ.fa hT (hall 20 (by simp)) rfl
            have hst := hJ.st
            simp only [putAll, Act.put, List.setIfInBounds_toArray, List.set_cons_zero, List.set_cons_succ, Nat.zero_add, Nat.reduceAdd]
            obtain ⟨v9, _, ⟨L9, o9, l9⟩, _, _, a9⟩ := hst.1.2 (hall 15 (by simp))
            have a9 := a9 (hall 19 (by simp))
            have x9 := hst.1.1
            clear hst hS0
            rw [a9]
            obtain ⟨lp, rfl, ll, lnn⟩ := own_pn o9
            have LPL : Hid (lp.l.length ≤ 9223372036854775807) := Hi (by rw [ll]; omega)
            have LPN := Hi (lnn.less (Nat.zero_le _))
            clear o9 ll lnn a9 l9
            rw [f20]
            clear f20
            clear hJ hall hT
            generalize f 0 = y0
            generalize f 1 = y1
            generalize f 2 = y2
            generalize f 3 = y3
            generalize f 4 = y4
            generalize f 5 = y5
            generalize f 6 = y6
            generalize f 7 = y7
            generalize f 8 = y8
            generalize f 9 = y9
            generalize f 10 = y10
            generalize f 11 = y11
            generalize f 12 = y12
            generalize f 13 = y13
            generalize f 14 = y14
            generalize f 15 = y15
            generalize f 16 = y16
            generalize f 17 = y17
            generalize f 18 = y18
            have S := Hi (S3.out.ext x9)
            clear x9 S3 A3 R9
            go_wp2_with ((with_reducible refine s7c ?_ ?_); (focus rfl))
            refine (opens_any wz _ C D n k rv rd got lp S.out (Or.inl LPN.out) LPL.out).mono ?_
            rintro e w9 ⟨rfl, got9, hs9, hl9⟩
            replace S := Hi hs9
            have hg9 : got9.length ≤ j + 1 := by omega
            obtain ⟨rv9, hrv9⟩ : ∃ v, v = rv := ⟨_, rfl⟩
            obtain ⟨rd9, hrd9⟩ : ∃ v, v = rd := ⟨_, rfl⟩
            rw [← hrv9, ← hrd9] at S
            clear hs9 hl9 hrv9 hrd9
            go_wp2_with fail
            have hS0 : ∀ (listed : Array Bool) (f : Nat → Value), (∀ i, listed.getD i false = false) → (fun (_ : Array Bool) (_ : Nat → Value) (W : World) => Ex w9 W) listed f w9.drew := fun _ _ _ => ex_drewN w9 1
            obtain ⟨T, hT⟩ : ∃ T : List (Value → Prop), T = [(fun zz => zz = .pointer (some ⟨C, 0, none⟩)), (fun zz => zz = .int .u64 got9.length), (fun zz => zz = .pointer (some ⟨D, 0, none⟩)), (fun zz => zz = .pointer (some ⟨D, 0, none⟩)), (fun zz => zz = .pointer (some ⟨D, 1, none⟩)), (fun zz => zz = .int .u64 got9.length), (fun zz => zz = .bool false), (fun zz => zz = .bool false), (fun zz => zz = .pointer (some ⟨C, 0, none⟩)), (fun zz => zz = .int .i64 (waits got9)), (fun zz => zz = .pointer (some ⟨D, 0, none⟩)), (fun zz => zz = .int .i64 (waits got9)), (fun zz => zz = .bool false), (fun zz => zz = .bool false)] := ⟨_, rfl⟩
            refine wp_region_gen (JS T ([] : List (Nat × Nat)) (fun (_ : Array Bool) (_ : Nat → Value) (W : World) => Ex w9 W)) (by kernel_rfl) (by kernel_rfl) (by kernel_rfl) (fitB_spec (by kernel_rfl)) (fun listed f h => JS.start listed f h (hS0 listed f h)) ?_ ?_
            ·intro i o ho
             have hi : i < 14 := (Array.getElem?_eq_some_iff.1 ho).1
             have hi' : i = 0 ∨ i = 1 ∨ i = 2 ∨ i = 3 ∨ i = 4 ∨ i = 5 ∨ i = 6 ∨ i = 7 ∨ i = 8 ∨ i = 9 ∨ i = 10 ∨ i = 11 ∨ i = 12 ∨ i = 13 := by omega
             clear hi
             rcases hi' with rfl | rfl | rfl | rfl | rfl | rfl | rfl | rfl | rfl | rfl | rfl | rfl | rfl | rfl
             all_goals (simp only [List.getElem?_toArray, List.getElem?_cons_zero, List.getElem?_cons_succ, Option.some.injEq] at ho; subst ho; intro listed f a wy hJ hsz hls hun hdep hout hlat; first | (rw [if_pos (by rfl)]; intro K hK) | skip)
             ·have q7 := hout 7 ob
              exact wp_mw _ rfl q7 (hK _ _ (hJ.nx hls hT rfl rfl (Ex.trans hJ.st (Ex.refl _)) nh))
             ·have q184 := hJ.iq hT (hdep ⟨0, .data⟩ (by simp) rfl) rfl _ rfl _ rfl
              clear hsz hdep hout hlat
              go_simp
              refine (asked_any wz.heap.size C n k rv9 got9 wy (S.out.ext hJ.st).c).mono ?_
              rintro e w4 ⟨rfl, rfl⟩
              exact hK _ _ (hJ.nx hls hT rfl rfl (Ex.trans hJ.st (Ex.refl _)) nh)
             ·have q9 := hout 9 ob
              exact wp_mw _ rfl q9 (hK _ _ (hJ.nx hls hT rfl rfl (Ex.trans hJ.st (Ex.refl _)) nh))
             ·have q186 := hJ.iq hT (hdep ⟨2, .data⟩ (by simp) rfl) rfl _ rfl _ rfl
              clear hsz hdep hout hlat
              go_simp
              exact hK _ _ (hJ.na hls hT (Ex.trans hJ.st (Ex.refl _)))
             ·have q187 := hJ.iq hT (hdep ⟨3, .data⟩ (by simp) rfl) rfl _ rfl _ rfl
              clear hsz hdep hout hlat
              go_simp
              exact hK _ _ (hJ.na hls hT (Ex.trans hJ.st (Ex.refl _)))
             ·have q188 := hJ.iq hT (hdep ⟨4, .data⟩ (by simp) rfl) rfl _ rfl _ rfl
              have c6 := (S.out.ext hJ.st).d.c0.2
              clear hsz hdep hout hlat
              go_simp
              exact hK _ _ (hJ.nx hls hT rfl rfl (Ex.trans hJ.st (Ex.refl _)) nh)
             ·have q185 := hJ.iq hT (hdep ⟨1, .data⟩ (by simp) rfl) rfl _ rfl _ rfl
              have q189 := hJ.iq hT (hdep ⟨5, .data⟩ (by simp) rfl) rfl _ rfl _ rfl
              clear hsz hdep hout hlat
              go_simp
              exact hK _ _ (hJ.na hls hT (Ex.trans hJ.st (Ex.refl _)))
             ·have q190 := hJ.is hT (hdep ⟨6, .data⟩ (by simp) rfl) rfl _ rfl _ rfl
              exact wp_mw _ rfl q190 (hK _ _ (hJ.nx hls hT rfl rfl (Ex.trans hJ.st (Ex.refl _)) nh))
             ·have kg := hJ.is hT (hdep ⟨7, .guard⟩ (by simp) rfl) rfl _ rfl _ rfl
              rw [if_pos (wanted_of rfl rfl rfl kg)]
              clear kg
              intro K hK
              have q7 := hout 7 ob
              exact wp_mw _ rfl q7 (hK _ _ (hJ.nx hls hT rfl rfl (Ex.trans hJ.st (Ex.refl _)) nh))
             ·have kg := hJ.is hT (hdep ⟨7, .guard⟩ (by simp) rfl) rfl _ rfl _ rfl
              rw [if_pos (wanted_of rfl rfl rfl kg)]
              clear kg
              intro K hK
              have q192 := hJ.iq hT (hdep ⟨8, .data⟩ (by simp) rfl) rfl _ rfl _ rfl
              clear hsz hdep hout hlat
              go_simp
              refine (waits_any wz.heap.size C n k rv9 got9 wy (S.out.ext hJ.st).c).mono ?_
              rintro e w4 ⟨rfl, rfl⟩
              exact hK _ _ (hJ.nx hls hT rfl rfl (Ex.trans hJ.st (Ex.refl _)) nh)
             ·have kg := hJ.is hT (hdep ⟨7, .guard⟩ (by simp) rfl) rfl _ rfl _ rfl
              rw [if_pos (wanted_of rfl rfl rfl kg)]
              clear kg
              intro K hK
              have q9 := hout 9 ob
              exact wp_mw _ rfl q9 (hK _ _ (hJ.nx hls hT rfl rfl (Ex.trans hJ.st (Ex.refl _)) nh))
             ·have kg := hJ.is hT (hdep ⟨7, .guard⟩ (by simp) rfl) rfl _ rfl _ rfl
              rw [if_pos (wanted_of rfl rfl rfl kg)]
              clear kg
              intro K hK
              have q194 := hJ.iq hT (hdep ⟨10, .data⟩ (by simp) rfl) rfl _ rfl _ rfl
              clear hsz hdep hout hlat
              go_simp
              refine (rwaits_any wz.heap.size D n k rd9 got9 wy (S.out.ext hJ.st).d).mono ?_
              rintro e w4 ⟨rfl, rfl⟩
              exact hK _ _ (hJ.nx hls hT rfl rfl (Ex.trans hJ.st (Ex.refl _)) nh)
             ·have kg := hJ.is hT (hdep ⟨7, .guard⟩ (by simp) rfl) rfl _ rfl _ rfl
              rw [if_pos (wanted_of rfl rfl rfl kg)]
              clear kg
              intro K hK
              have q193 := hJ.iq hT (hdep ⟨9, .data⟩ (by simp) rfl) rfl _ rfl _ rfl
              have q195 := hJ.iq hT (hdep ⟨11, .data⟩ (by simp) rfl) rfl _ rfl _ rfl
              clear hsz hdep hout hlat
              go_simp
              exact hK _ _ (hJ.na hls hT (Ex.trans hJ.st (Ex.refl _)))
             ·have q191 := hJ.iq hT (hdep ⟨7, .data⟩ (by simp) rfl) rfl _ rfl _ rfl
              have q196 := hJ.iq hT (hdep ⟨12, .data⟩ (by simp) rfl) rfl _ rfl _ rfl
              clear hsz hdep hout hlat
              go_simp
              exact hK _ _ (hJ.na hls hT (Ex.trans hJ.st (Ex.refl _)))
            ·intro listed f wy hall hJ
             have f13 := hJ.fa hT (hall 13 (by simp)) rfl
             have hst := hJ.st
             simp only [putAll, Act.put, List.setIfInBounds_toArray, List.set_cons_zero, List.set_cons_succ, Nat.zero_add, Nat.reduceAdd]
             have x9 : Ex w9 wy := hst
             clear hst hS0
             rw [f13]
             clear f13
             clear hJ hall hT
             generalize f 0 = y0
             generalize f 1 = y1
             generalize f 2 = y2
             generalize f 3 = y3
             generalize f 4 = y4
             generalize f 5 = y5
             generalize f 6 = y6
             generalize f 7 = y7
             generalize f 8 = y8
             generalize f 9 = y9
             generalize f 10 = y10
             generalize f 11 = y11
             generalize f 12 = y12
             replace S := Hi (S.out.ext x9)
             clear x9
             go_wp2_with fail
             go_roundw
             case rel => exact ⟨j + 1, rv9, rd9, got9, by omega, by omega, hg9, by go_num, S⟩
             case measure => simp [intOf]; omega
    ·have n4 : ¬ x.kind = 4 := fun e => h45 (Or.inl e)
     have n5 : ¬ x.kind = 5 := fun e => h45 (Or.inr e)
     by_cases h6 : x.kind = 6
     ·rw [h6] at c0
      clear n4 n5 h45 h6
      go_wp2_with ((with_reducible refine s7c ?_ ?_); (focus rfl))
      refine (cut_any x.b 60 (by decide) (by decide) (Nat.le_trans XI.out.bN (by decide)) w3 (XI.out.b.ext S.out.x)).mono ?_
      rintro e w4 ⟨rfl, rfl⟩
      go_wp2_with ((with_reducible refine s7c ?_ ?_); (focus rfl))
      refine (opens_any wz _ C D n k rv rd got (Pt.mk x.b.ad x.b.cap (x.b.l.take 60)) S.out (Or.inr (bcut_in XI.out.b 60)) (by show (x.b.l.take 60).length ≤ _; rw [List.length_take]; omega)).mono ?_
      rintro e w9 ⟨rfl, got9, hs9, hl9⟩
      replace S := Hi hs9
      have hg9 : got9.length ≤ j + 1 := by omega
      obtain ⟨rv9, hrv9⟩ : ∃ v, v = rv := ⟨_, rfl⟩
      obtain ⟨rd9, hrd9⟩ : ∃ v, v = rd := ⟨_, rfl⟩
      rw [← hrv9, ← hrd9] at S
      clear hs9 hl9 hrv9 hrd9
      go_wp2_with fail
      have hS0 : ∀ (listed : Array Bool) (f : Nat → Value), (∀ i, listed.getD i false = false) → (fun (_ : Array Bool) (_ : Nat → Value) (W : World) => Ex w9 W) listed f w9.drew := fun _ _ _ => ex_drewN w9 1
      obtain ⟨T, hT⟩ : ∃ T : List (Value → Prop), T = [(fun zz => zz = .pointer (some ⟨C, 0, none⟩)), (fun zz => zz = .int .u64 got9.length), (fun zz => zz = .pointer (some ⟨D, 0, none⟩)), (fun zz => zz = .pointer (some ⟨D, 0, none⟩)), (fun zz => zz = .pointer (some ⟨D, 1, none⟩)), (fun zz => zz = .int .u64 got9.length), (fun zz => zz = .bool false), (fun zz => zz = .bool false), (fun zz => zz = .pointer (some ⟨C, 0, none⟩)), (fun zz => zz = .int .i64 (waits got9)), (fun zz => zz = .pointer (some ⟨D, 0, none⟩)), (fun zz => zz = .int .i64 (waits got9)), (fun zz => zz = .bool false), (fun zz => zz = .bool false)] := ⟨_, rfl⟩
      refine wp_region_gen (JS T ([] : List (Nat × Nat)) (fun (_ : Array Bool) (_ : Nat → Value) (W : World) => Ex w9 W)) (by kernel_rfl) (by kernel_rfl) (by kernel_rfl) (fitB_spec (by kernel_rfl)) (fun listed f h => JS.start listed f h (hS0 listed f h)) ?_ ?_
      ·intro i o ho
       have hi : i < 14 := (Array.getElem?_eq_some_iff.1 ho).1
       have hi' : i = 0 ∨ i = 1 ∨ i = 2 ∨ i = 3 ∨ i = 4 ∨ i = 5 ∨ i = 6 ∨ i = 7 ∨ i = 8 ∨ i = 9 ∨ i = 10 ∨ i = 11 ∨ i = 12 ∨ i = 13 := by omega
       clear hi
       rcases hi' with rfl | rfl | rfl | rfl | rfl | rfl | rfl | rfl | rfl | rfl | rfl | rfl | rfl | rfl
       all_goals (simp only [List.getElem?_toArray, List.getElem?_cons_zero, List.getElem?_cons_succ, Option.some.injEq] at ho; subst ho; intro listed f a wy hJ hsz hls hun hdep hout hlat; first | (rw [if_pos (by rfl)]; intro K hK) | skip)
       ·have q7 := hout 7 ob
        exact wp_mw _ rfl q7 (hK _ _ (hJ.nx hls hT rfl rfl (Ex.trans hJ.st (Ex.refl _)) nh))
       ·have q184 := hJ.iq hT (hdep ⟨0, .data⟩ (by simp) rfl) rfl _ rfl _ rfl
        clear hsz hdep hout hlat
        go_simp
        refine (asked_any wz.heap.size C n k rv9 got9 wy (S.out.ext hJ.st).c).mono ?_
        rintro e w4 ⟨rfl, rfl⟩
        exact hK _ _ (hJ.nx hls hT rfl rfl (Ex.trans hJ.st (Ex.refl _)) nh)
       ·have q9 := hout 9 ob
        exact wp_mw _ rfl q9 (hK _ _ (hJ.nx hls hT rfl rfl (Ex.trans hJ.st (Ex.refl _)) nh))
       ·have q186 := hJ.iq hT (hdep ⟨2, .data⟩ (by simp) rfl) rfl _ rfl _ rfl
        clear hsz hdep hout hlat
        go_simp
        exact hK _ _ (hJ.na hls hT (Ex.trans hJ.st (Ex.refl _)))
       ·have q187 := hJ.iq hT (hdep ⟨3, .data⟩ (by simp) rfl) rfl _ rfl _ rfl
        clear hsz hdep hout hlat
        go_simp
        exact hK _ _ (hJ.na hls hT (Ex.trans hJ.st (Ex.refl _)))
       ·have q188 := hJ.iq hT (hdep ⟨4, .data⟩ (by simp) rfl) rfl _ rfl _ rfl
        have c6 := (S.out.ext hJ.st).d.c0.2
        clear hsz hdep hout hlat
        go_simp
        exact hK _ _ (hJ.nx hls hT rfl rfl (Ex.trans hJ.st (Ex.refl _)) nh)
       ·have q185 := hJ.iq hT (hdep ⟨1, .data⟩ (by simp) rfl) rfl _ rfl _ rfl
        have q189 := hJ.iq hT (hdep ⟨5, .data⟩ (by simp) rfl) rfl _ rfl _ rfl
        clear hsz hdep hout hlat
        go_simp
        exact hK _ _ (hJ.na hls hT (Ex.trans hJ.st (Ex.refl _)))
       ·have q190 := hJ.is hT (hdep ⟨6, .data⟩ (by simp) rfl) rfl _ rfl _ rfl
        exact wp_mw _ rfl q190 (hK _ _ (hJ.nx hls hT rfl rfl (Ex.trans hJ.st (Ex.refl _)) nh))
       ·have kg := hJ.is hT (hdep ⟨7, .guard⟩ (by simp) rfl) rfl _ rfl _ rfl
        rw [if_pos (wanted_of rfl rfl rfl kg)]
        clear kg
        intro K hK
        have q7 := hout 7 ob
        exact wp_mw _ rfl q7 (hK _ _ (hJ.nx hls hT rfl rfl (Ex.trans hJ.st (Ex.refl _)) nh))
       ·have kg := hJ.is hT (hdep ⟨7, .guard⟩ (by simp) rfl) rfl _ rfl _ rfl
        rw [if_pos (wanted_of rfl rfl rfl kg)]
        clear kg
        intro K hK
        have q192 := hJ.iq hT (hdep ⟨8, .data⟩ (by simp) rfl) rfl _ rfl _ rfl
        clear hsz hdep hout hlat
        go_simp
        refine (waits_any wz.heap.size C n k rv9 got9 wy (S.out.ext hJ.st).c).mono ?_
        rintro e w4 ⟨rfl, rfl⟩
        exact hK _ _ (hJ.nx hls hT rfl rfl (Ex.trans hJ.st (Ex.refl _)) nh)
       ·have kg := hJ.is hT (hdep ⟨7, .guard⟩ (by simp) rfl) rfl _ rfl _ rfl
        rw [if_pos (wanted_of rfl rfl rfl kg)]
        clear kg
        intro K hK
        have q9 := hout 9 ob
        exact wp_mw _ rfl q9 (hK _ _ (hJ.nx hls hT rfl rfl (Ex.trans hJ.st (Ex.refl _)) nh))
       ·have kg := hJ.is hT (hdep ⟨7, .guard⟩ (by simp) rfl) rfl _ rfl _ rfl
        rw [if_pos (wanted_of rfl rfl rfl kg)]
        clear kg
        intro K hK
        have q194 := hJ.iq hT (hdep ⟨10, .data⟩ (by simp) rfl) rfl _ rfl _ rfl
        clear hsz hdep hout hlat
        go_simp
        refine (rwaits_any wz.heap.size D n k rd9 got9 wy (S.out.ext hJ.st).d).mono ?_
        rintro e w4 ⟨rfl, rfl⟩
        exact hK _ _ (hJ.nx hls hT rfl rfl (Ex.trans hJ.st (Ex.refl _)) nh)
       ·have kg := hJ.is hT (hdep ⟨7, .guard⟩ (by simp) rfl) rfl _ rfl _ rfl
        rw [if_pos (wanted_of rfl rfl rfl kg)]
        clear kg
        intro K hK
        have q193 := hJ.iq hT (hdep ⟨9, .data⟩ (by simp) rfl) rfl _ rfl _ rfl
        have q195 := hJ.iq hT (hdep ⟨11, .data⟩ (by simp) rfl) rfl _ rfl _ rfl
        clear hsz hdep hout hlat
        go_simp
        exact hK _ _ (hJ.na hls hT (Ex.trans hJ.st (Ex.refl _)))
       ·have q191 := hJ.iq hT (hdep ⟨7, .data⟩ (by simp) rfl) rfl _ rfl _ rfl
        have q196 := hJ.iq hT (hdep ⟨12, .data⟩ (by simp) rfl) rfl _ rfl _ rfl
        clear hsz hdep hout hlat
        go_simp
        exact hK _ _ (hJ.na hls hT (Ex.trans hJ.st (Ex.refl _)))
      ·intro listed f wy hall hJ
       have f13 := hJ.fa hT (hall 13 (by simp)) rfl
       have hst := hJ.st
       simp only [putAll, Act.put, List.setIfInBounds_toArray, List.set_cons_zero, List.set_cons_succ, Nat.zero_add, Nat.reduceAdd]
       have x9 : Ex w9 wy := hst
       clear hst hS0
       rw [f13]
       clear f13
       clear hJ hall hT
       generalize f 0 = y0
       generalize f 1 = y1
       generalize f 2 = y2
       generalize f 3 = y3
       generalize f 4 = y4
       generalize f 5 = y5
       generalize f 6 = y6
       generalize f 7 = y7
       generalize f 8 = y8
       generalize f 9 = y9
       generalize f 10 = y10
       generalize f 11 = y11
       generalize f 12 = y12
       replace S := Hi (S.out.ext x9)
       clear x9
       go_wp2_with fail
       go_roundw
       case rel => exact ⟨j + 1, rv9, rd9, got9, by omega, by omega, hg9, by go_num, S⟩
       case measure => simp [intOf]; omega
     ·have b4 : (x.kind == 4) = false := by simpa using n4
      have b5 : (x.kind == 5) = false := by simpa using n5
      have b6 : (x.kind == 6) = false := by simpa using h6
      clear c20
      go_wp2_with ((with_reducible refine s7c ?_ ?_); (focus rfl))
      refine at9 (by go_simp) fun K0 hK => ld_ask _ i0 x rfl rfl XI.out A.out (hK _ _ ?_)
      clear hK
      go_wp2_with ((with_reducible refine s7c ?_ ?_); (focus rfl))
      refine (wish2_any x w3 (XI.out.ext S.out.x)).mono ?_
      rintro e w4 ⟨y, rfl, yi, xx, ys⟩
      replace S := Hi (S.out.ext xx)
      replace A := Hi (A.out.ext xx)
      have YW := Hi yi.ok
      have YP : Hid (PS wz w4 y.sec) := Hi (Or.inr (by cases ys with | inl e => rw [e]; exact XI.out.raw.sec | inr e => rw [e]; exact bcut_in XI.out.sec 70))
      clear yi ys xx n4 n5 h45 h6 c0 c1 c3
      go_wp2_with ((with_reducible refine s7c ?_ ?_); (focus rfl))
      obtain ⟨iw, hiw⟩ : ∃ i, i = w4.heap.size := ⟨_, rfl⟩
      refine at9 (by go_simp) fun K0 hK => st_w _ _ w4.heap.size y rfl rfl rfl YW.out (Bk.new rfl _ _) (by rfl) (fun w5 hd ho => hK _ _ ?_)
      clear hK
      have x3 : Ex w4 w5 := ho.below w4.heap.size (Nat.le_refl _) w4 (Ex.alloc w4 _)
      replace S := Hi (S.out.ext x3)
      replace A := Hi (A.out.ext x3)
      replace YP := Hi (YP.out.ext x3)
      have WB5 := Hi hd
      rw [← hiw] at WB5 ⊢
      clear hiw hd ho x3 c2
      have c2 := A.out.lo.2.2
      go_wp2_with ((with_reducible refine s7c ?_ ?_); (focus rfl))
      refine (within_any x.member (-1) 8 XI.out.member (by decide) (by decide) (by decide) w5).mono ?_
      rintro e w6 ⟨mm, rfl, lo, hi, rfl⟩
      go_wp2_with ((with_reducible refine s7c ?_ ?_); (focus rfl))
      refine at9 (by go_simp) fun K0 hK => ld_w _ iw y rfl rfl WB5.out (hK _ _ ?_)
      clear hK
      go_wp2_with ((with_reducible refine s7c ?_ ?_); (focus rfl))
      obtain ⟨R, hR⟩ : ∃ R, R = makeF n got.length k mm y.ct := ⟨_, rfl⟩
      have HR := Hi hR
      clear hR
      refine (make_any wz.heap.size C n k rv got mm y w5 S.out.c (by omega) ⟨YW.out, YP.out.inn S.out.x⟩).mono ?_
      intro e w6 h9
      rw [← HR.out] at h9
      obtain ⟨⟨r, q, rfl, rl, rn, ⟨qo, qn⟩, qc⟩, rv9, tc, ci, li⟩ := h9.both S.out.c
      replace WB5 := Hi (WB.left WB5.out S.out tc)
      replace YP := Hi (YP.out.left S.out tc)
      replace S := Hi (S.out.left tc ci li)
      have RL := Hi rl
      have RN := Hi rn
      have QO := Hi qo
      have QN := Hi qn
      have QC := Hi qc
      clear h9 tc ci li rl rn qo qn qc A c2
      go_wp2_with ((with_reducible refine s7c ?_ ?_); (focus rfl))
      obtain ⟨iq, hiq⟩ : ∃ i, i = w6.heap.size := ⟨_, rfl⟩
      refine at9 (by go_simp) fun K0 hK => st_q _ _ w6.heap.size q rfl rfl rfl QO.out (Bk.new rfl _ _) (by rfl) (fun w7 hd ho => hK _ _ ?_)
      clear hK
      have x3 : Ex w6 w7 := ho.below w6.heap.size (Nat.le_refl _) w6 (Ex.alloc w6 _)
      replace S := Hi (S.out.ext x3)
      replace YP := Hi (YP.out.ext x3)
      replace WB5 := Hi (WB5.out.ext x3)
      replace RN := Hi (RN.out.ext x3)
      replace QN := Hi (QN.out.ext x3)
      have Q7 := Hi hd
      rw [← hiq] at Q7 ⊢
      clear hiq hd ho x3
      go_wp2_with ((with_reducible refine s7c ?_ ?_); (focus rfl))
      refine at9 (by go_simp) fun K0 hK => ld_w _ iw y rfl rfl WB5.out (hK _ _ ?_)
      clear hK
      go_wp2_with ((with_reducible refine s7c ?_ ?_); (focus rfl))
      refine (rmake_any wz.heap.size D n k rd got mm y w7 S.out.d (by omega) ⟨YW.out, YP.out.inn S.out.x⟩).mono ?_
      intro e w8 h9
      rw [← HR.out] at h9
      obtain ⟨⟨r2, q2, rfl, rl2, rn2, ⟨qo2, qn2⟩, qc2⟩, rd9, tc, di, li⟩ := h9.both S.out.d
      replace Q7 := Hi (QB.right Q7.out S.out tc)
      replace RN := Hi (PN.td9 RN.out tc S.out.d.blk S.out.d.row)
      replace QN := Hi (PN.td9 QN.out tc S.out.d.blk S.out.d.row)
      replace S := Hi (S.out.right tc di li)
      have RL2 := Hi rl2
      have RN2 := Hi rn2
      have QO2 := Hi qo2
      have QN2 := Hi qn2
      have QC2 := Hi qc2
      clear h9 tc di li rl2 rn2 qo2 qn2 qc2 WB5 YP
      go_wp2_with ((with_reducible refine s7c ?_ ?_); (focus rfl))
      obtain ⟨iq2, hiq⟩ : ∃ i, i = w8.heap.size := ⟨_, rfl⟩
      refine at9 (by go_simp) fun K0 hK => st_q _ _ w8.heap.size q2 rfl rfl rfl QO2.out (Bk.new rfl _ _) (by rfl) (fun wc hd ho => hK _ _ ?_)
      clear hK
      have x3 : Ex w8 wc := ho.below w8.heap.size (Nat.le_refl _) w8 (Ex.alloc w8 _)
      replace S := Hi (S.out.ext x3)
      replace Q7 := Hi (Q7.out.ext x3)
      replace RN := Hi (RN.out.ext x3)
      replace QN := Hi (QN.out.ext x3)
      replace RN2 := Hi (RN2.out.ext x3)
      replace QN2 := Hi (QN2.out.ext x3)
      have Q8 := Hi hd
      rw [← hiq] at Q8 ⊢
      clear hiq hd ho x3
      have cv := conv_V r wc RN.out.1
      have cv2 := conv_V r2 wc RN2.out.1
      rw [RL.out] at cv
      rw [RL2.out] at cv2
      generalize strL R.1 = s1 at cv cv2
      generalize R.2.2 = E9
      go_wp2_with ((with_reducible refine s7c ?_ ?_); (focus rfl))
      refine at9 (by go_simp) fun K0 hK => ld_q _ iq q rfl rfl Q7.out (hK _ _ ?_)
      clear hK
      go_wp2_with ((with_reducible refine s7c ?_ ?_); (focus rfl))
      refine at9 (by go_simp) fun K0 hK => ld_q _ iq2 q2 rfl rfl Q8.out (hK _ _ ?_)
      clear hK
      go_wp2_with ((with_reducible refine s7c ?_ ?_); (focus rfl))
      refine (reqs_any q q2 (QC.out.trans QC2.out.symm) wc ⟨QO.out, QN.out.1⟩ ⟨QO2.out, QN2.out.1⟩ (by have h := makeF_sec (n := n) (num := got.length) (now := mm) (k := k) (W := y.ct); rw [← HR.out, ← QC.out] at h; exact Nat.le_trans h (by decide))).mono ?_
      rintro e w9 ⟨rfl, x5⟩
      replace S := Hi (S.out.ext x5)
      obtain ⟨got9, hgot9⟩ : ∃ g, g = gotM got R := ⟨_, rfl⟩
      rw [← hgot9] at S
      have hg9 : got9.length ≤ j + 1 := by rw [hgot9]; exact gotM_eq hgl
      clear x5 hgot9 cv cv2
      go_wp2_with fail
      have hS0 : ∀ (listed : Array Bool) (f : Nat → Value), (∀ i, listed.getD i false = false) → (fun (_ : Array Bool) (_ : Nat → Value) (W : World) => Ex w9 W) listed f w9.drew := fun _ _ _ => ex_drewN w9 1
      obtain ⟨T, hT⟩ : ∃ T : List (Value → Prop), T = [(fun zz => zz = .pointer (some ⟨C, 0, none⟩)), (fun zz => zz = .int .u64 got9.length), (fun zz => zz = .pointer (some ⟨D, 0, none⟩)), (fun zz => zz = .pointer (some ⟨D, 0, none⟩)), (fun zz => zz = .pointer (some ⟨D, 1, none⟩)), (fun zz => zz = .int .u64 got9.length), (fun zz => zz = .bool false), (fun zz => zz = .bool false), (fun zz => zz = .pointer (some ⟨C, 0, none⟩)), (fun zz => zz = .int .i64 (waits got9)), (fun zz => zz = .pointer (some ⟨D, 0, none⟩)), (fun zz => zz = .int .i64 (waits got9)), (fun zz => zz = .bool false), (fun zz => zz = .bool false)] := ⟨_, rfl⟩
      refine wp_region_gen (JS T ([] : List (Nat × Nat)) (fun (_ : Array Bool) (_ : Nat → Value) (W : World) => Ex w9 W)) (by kernel_rfl) (by kernel_rfl) (by kernel_rfl) (fitB_spec (by kernel_rfl)) (fun listed f h => JS.start listed f h (hS0 listed f h)) ?_ ?_
      ·intro i o ho
       have hi : i < 14 := (Array.getElem?_eq_some_iff.1 ho).1
       have hi' : i = 0 ∨ i = 1 ∨ i = 2 ∨ i = 3 ∨ i = 4 ∨ i = 5 ∨ i = 6 ∨ i = 7 ∨ i = 8 ∨ i = 9 ∨ i = 10 ∨ i = 11 ∨ i = 12 ∨ i = 13 := by omega
       clear hi
       rcases hi' with rfl | rfl | rfl | rfl | rfl | rfl | rfl | rfl | rfl | rfl | rfl | rfl | rfl | rfl
       all_goals (simp only [List.getElem?_toArray, List.getElem?_cons_zero, List.getElem?_cons_succ, Option.some.injEq] at ho; subst ho; intro listed f a wy hJ hsz hls hun hdep hout hlat; first | (rw [if_pos (by rfl)]; intro K hK) | skip)
       ·have q7 := hout 7 ob
        exact wp_mw _ rfl q7 (hK _ _ (hJ.nx hls hT rfl rfl (Ex.trans hJ.st (Ex.refl _)) nh))
       ·have q184 := hJ.iq hT (hdep ⟨0, .data⟩ (by simp) rfl) rfl _ rfl _ rfl
        clear hsz hdep hout hlat
        go_simp
        refine (asked_any wz.heap.size C n k rv9 got9 wy (S.out.ext hJ.st).c).mono ?_
        rintro e w4 ⟨rfl, rfl⟩
        exact hK _ _ (hJ.nx hls hT rfl rfl (Ex.trans hJ.st (Ex.refl _)) nh)
       ·have q9 := hout 9 ob
        exact wp_mw _ rfl q9 (hK _ _ (hJ.nx hls hT rfl rfl (Ex.trans hJ.st (Ex.refl _)) nh))
       ·have q186 := hJ.iq hT (hdep ⟨2, .data⟩ (by simp) rfl) rfl _ rfl _ rfl
        clear hsz hdep hout hlat
        go_simp
        exact hK _ _ (hJ.na hls hT (Ex.trans hJ.st (Ex.refl _)))
       ·have q187 := hJ.iq hT (hdep ⟨3, .data⟩ (by simp) rfl) rfl _ rfl _ rfl
        clear hsz hdep hout hlat
        go_simp
        exact hK _ _ (hJ.na hls hT (Ex.trans hJ.st (Ex.refl _)))
       ·have q188 := hJ.iq hT (hdep ⟨4, .data⟩ (by simp) rfl) rfl _ rfl _ rfl
        have c6 := (S.out.ext hJ.st).d.c0.2
        clear hsz hdep hout hlat
        go_simp
        exact hK _ _ (hJ.nx hls hT rfl rfl (Ex.trans hJ.st (Ex.refl _)) nh)
       ·have q185 := hJ.iq hT (hdep ⟨1, .data⟩ (by simp) rfl) rfl _ rfl _ rfl
        have q189 := hJ.iq hT (hdep ⟨5, .data⟩ (by simp) rfl) rfl _ rfl _ rfl
        clear hsz hdep hout hlat
        go_simp
        exact hK _ _ (hJ.na hls hT (Ex.trans hJ.st (Ex.refl _)))
       ·have q190 := hJ.is hT (hdep ⟨6, .data⟩ (by simp) rfl) rfl _ rfl _ rfl
        exact wp_mw _ rfl q190 (hK _ _ (hJ.nx hls hT rfl rfl (Ex.trans hJ.st (Ex.refl _)) nh))
       ·have kg := hJ.is hT (hdep ⟨7, .guard⟩ (by simp) rfl) rfl _ rfl _ rfl
        rw [if_pos (wanted_of rfl rfl rfl kg)]
        clear kg
        intro K hK
        have q7 := hout 7 ob
        exact wp_mw _ rfl q7 (hK _ _ (hJ.nx hls hT rfl rfl (Ex.trans hJ.st (Ex.refl _)) nh))
       ·have kg := hJ.is hT (hdep ⟨7, .guard⟩ (by simp) rfl) rfl _ rfl _ rfl
        rw [if_pos (wanted_of rfl rfl rfl kg)]
        clear kg
        intro K hK
        have q192 := hJ.iq hT (hdep ⟨8, .data⟩ (by simp) rfl) rfl _ rfl _ rfl
        clear hsz hdep hout hlat
        go_simp
        refine (waits_any wz.heap.size C n k rv9 got9 wy (S.out.ext hJ.st).c).mono ?_
        rintro e w4 ⟨rfl, rfl⟩
        exact hK _ _ (hJ.nx hls hT rfl rfl (Ex.trans hJ.st (Ex.refl _)) nh)
       ·have kg := hJ.is hT (hdep ⟨7, .guard⟩ (by simp) rfl) rfl _ rfl _ rfl
        rw [if_pos (wanted_of rfl rfl rfl kg)]
        clear kg
        intro K hK
        have q9 := hout 9 ob
        exact wp_mw _ rfl q9 (hK _ _ (hJ.nx hls hT rfl rfl (Ex.trans hJ.st (Ex.refl _)) nh))
       ·have kg := hJ.is hT (hdep ⟨7, .guard⟩ (by simp) rfl) rfl _ rfl _ rfl
        rw [if_pos (wanted_of rfl rfl rfl kg)]
        clear kg
        intro K hK
        have q194 := hJ.iq hT (hdep ⟨10, .data⟩ (by simp) rfl) rfl _ rfl _ rfl
        clear hsz hdep hout hlat
        go_simp
        refine (rwaits_any wz.heap.size D n k rd9 got9 wy (S.out.ext hJ.st).d).mono ?_
        rintro e w4 ⟨rfl, rfl⟩
        exact hK _ _ (hJ.nx hls hT rfl rfl (Ex.trans hJ.st (Ex.refl _)) nh)
       ·have kg := hJ.is hT (hdep ⟨7, .guard⟩ (by simp) rfl) rfl _ rfl _ rfl
        rw [if_pos (wanted_of rfl rfl rfl kg)]
        clear kg
        intro K hK
        have q193 := hJ.iq hT (hdep ⟨9, .data⟩ (by simp) rfl) rfl _ rfl _ rfl
        have q195 := hJ.iq hT (hdep ⟨11, .data⟩ (by simp) rfl) rfl _ rfl _ rfl
        clear hsz hdep hout hlat
        go_simp
        exact hK _ _ (hJ.na hls hT (Ex.trans hJ.st (Ex.refl _)))
       ·have q191 := hJ.iq hT (hdep ⟨7, .data⟩ (by simp) rfl) rfl _ rfl _ rfl
        have q196 := hJ.iq hT (hdep ⟨12, .data⟩ (by simp) rfl) rfl _ rfl _ rfl
        clear hsz hdep hout hlat
        go_simp
        exact hK _ _ (hJ.na hls hT (Ex.trans hJ.st (Ex.refl _)))
      ·intro listed f wy hall hJ
       have f13 := hJ.fa hT (hall 13 (by simp)) rfl
       have hst := hJ.st
       simp only [putAll, Act.put, List.setIfInBounds_toArray, List.set_cons_zero, List.set_cons_succ, Nat.zero_add, Nat.reduceAdd]
       have x9 : Ex w9 wy := hst
       clear hst hS0
       rw [f13]
       clear f13
       clear hJ hall hT
       generalize f 0 = y0
       generalize f 1 = y1
       generalize f 2 = y2
       generalize f 3 = y3
       generalize f 4 = y4
       generalize f 5 = y5
       generalize f 6 = y6
       generalize f 7 = y7
       generalize f 8 = y8
       generalize f 9 = y9
       generalize f 10 = y10
       generalize f 11 = y11
       generalize f 12 = y12
       replace S := Hi (S.out.ext x9)
       clear x9
       go_wp2_with fail
       go_roundw
       case rel => exact ⟨j + 1, rv9, rd9, got9, by omega, by omega, hg9, by go_num, S⟩
       case measure => simp [intOf]; omega
   ·by_cases h6 : j < lm
    ·have q7 : (j : Int) < (lm : Int) := by omega
     have q8 : ¬ (j : Int) < 50 := by omega
     go_wp2_with fail
     go_ret
     exact ⟨rfl, BW.out.trans S.out.x⟩
    ·have q7 : ¬ (j : Int) < (lm : Int) := by omega
     go_wp2_with fail
     go_ret
     exact ⟨rfl, BW.out.trans S.out.x⟩
end Go.Proofs.Ytopamplmpfndlaa.Cl
