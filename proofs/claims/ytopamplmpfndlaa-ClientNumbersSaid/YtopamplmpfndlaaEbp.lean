/- Cq, Cu, Cv, Cy, Tg, Th, Cw -/
import Derived.Test.YtopamplmpfndlaaEbo
set_option maxRecDepth 100000
set_option maxHeartbeats 16000000
namespace Go.Proofs.Ytopamplmpfndlaa.Cl
open Go.RowKit
def ownB (w : World) (B : Nat) (v : Value) (got : List Bool) : Prop := w.ownsRow B 4 1 v got.length (got.map Value.bool)
def clC (n : Int) (k : List UInt8) (rv : Value) : List Value := [.int .i64 n] ++ Lib.byteCells k ++ [rv]
def rcC (n m : Int) (k : List UInt8) (rv : Value) : List Value := [.int .i64 n, .int .u64 m] ++ Lib.byteCells k ++ [rv]
theorem ownB_form {w : World} {B : Nat} {v : Value} {got : List Bool} (h : ownB w B v got) : ∃ ad cap, v = .slice ad got.length cap ∧ (ad = none → cap = 0) ∧ got.length ≤ cap ∧ cap ≤ 9223372036854775807 ∧ Rd w ad got.length 1 (got.map Value.bool) := own_rd h
structure CI (w : World) (B C : Nat) (n : Int) (k : List UInt8) (rv : Value) (got : List Bool) : Prop where
 blk : Bk w C 106 (clC n k rv).toArray
 row : ownB w B rv got
 lo : B ≤ C
 kN : k.length = 16
 n0 : 0 ≤ n
 n1 : n < 4
 few : got.length ≤ 1000
structure DI (w : World) (B C : Nat) (n : Int) (k : List UInt8) (rv : Value) (got : List Bool) : Prop where
 blk : Bk w C 99 (rcC n got.length k rv).toArray
 row : ownB w B rv got
 lo : B ≤ C
 kN : k.length = 16
 n0 : 0 ≤ n
 n1 : n < 4
 few : got.length ≤ 1000
theorem CI.ext {w w' : World} {B C : Nat} {n : Int} {k : List UInt8} {rv : Value} {got : List Bool} (h : CI w B C n k rv got) (x : Ex w w') : CI w' B C n k rv got := ⟨h.blk.ext x, x.row h.row, h.lo, h.kN, h.n0, h.n1, h.few⟩
theorem DI.ext {w w' : World} {B C : Nat} {n : Int} {k : List UInt8} {rv : Value} {got : List Bool} (h : DI w B C n k rv got) (x : Ex w w') : DI w' B C n k rv got := ⟨h.blk.ext x, x.row h.row, h.lo, h.kN, h.n0, h.n1, h.few⟩
theorem CI.c0 {w : World} {B C : Nat} {n : Int} {k : List UInt8} {rv : Value} {got : List Bool} (h : CI w B C n k rv got) : w.cell? ⟨C, 0, none⟩ = some (.int .i64 n) := by rw [h.blk.cell]; rfl
theorem CI.c17 {w : World} {B C : Nat} {n : Int} {k : List UInt8} {rv : Value} {got : List Bool} (h : CI w B C n k rv got) : w.cell? ⟨C, 17, none⟩ = some rv := by
 obtain ⟨a0, a1, a2, a3, a4, a5, a6, a7, a8, a9, b0, b1, b2, b3, b4, b5, e⟩ := len16 h.kN
 rw [h.blk.cell]; unfold clC; rw [e]; rfl
theorem DI.c0 {w : World} {B C : Nat} {n : Int} {k : List UInt8} {rv : Value} {got : List Bool} (h : DI w B C n k rv got) : w.cell? ⟨C, 0, none⟩ = some (.int .i64 n) ∧ w.cell? ⟨C, 1, none⟩ = some (.int .u64 got.length) := by rw [h.blk.cell, h.blk.cell]; exact ⟨rfl, rfl⟩
theorem DI.c18 {w : World} {B C : Nat} {n : Int} {k : List UInt8} {rv : Value} {got : List Bool} (h : DI w B C n k rv got) : w.cell? ⟨C, 18, none⟩ = some rv := by
 obtain ⟨a0, a1, a2, a3, a4, a5, a6, a7, a8, a9, b0, b1, b2, b3, b4, b5, e⟩ := len16 h.kN
 rw [h.blk.cell]; unfold rcC; rw [e]; rfl
theorem built_cl (n : Int) (k : List UInt8) (hk : k.length = 16) : Try.prog.built 106 [(0, .int .i64 n), (1, digV k)] = some (clC n k (.slice none 0 0)).toArray := by
 obtain ⟨_, _, _, _, _, _, _, _, _, _, _, _, _, _, _, _, rfl⟩ := len16 hk
 kernel_rfl
def NewPost (n : Int) (k : List UInt8) (w : World) (e : Ending) (w' : World) : Prop :=
 Ex w w' ∧ ((¬ (0 ≤ n ∧ n < 4) ∧ e = .returned (.tuple #[.pointer none, .int .i64 1])) ∨ ((0 ≤ n ∧ n < 4) ∧ ∃ C, e = .returned (.tuple #[.pointer (some ⟨C, 0, none⟩), .int .i64 0]) ∧ CI w' w.heap.size C n k (.slice none 0 0) []))
theorem new_any (n : Int) (kl : List UInt8) (hk : kl.length = 16) (w : World) : Calls Try.prog 18 #[.int .i64 n, digV kl] w (NewPost n kl w) := by
 obtain ⟨ds, hds⟩ : ∃ ds, ds = (Lib.byteCells kl).toArray := ⟨_, rfl⟩
 have D0 : Hid (Bk (w.alloc (.cells ds 36)) w.heap.size 36 (Lib.byteCells kl).toArray) := Hi (by rw [← hds]; exact Bk.new rfl _ _)
 have X0 : Hid (Ex w (w.alloc (.cells ds 36))) := Hi (Ex.alloc _ _)
 have HK := Hi hk
 rw [show (Calls Try.prog 18 #[.int .i64 n, digV kl] w) = (Calls Try.prog 18 #[.int .i64 n, .agg ds] w) by rw [hds]; rfl]
 clear hds hk
 by_cases h0 : n < 0
 ·have hne : Hid (¬ (0 ≤ n ∧ n < 4)) := Hi (by omega)
  go_enter Try.func18, Try.ntmps18
  go_wp2_with fail
  go_ret2
  exact ⟨X0.out, Or.inl ⟨hne.out, rfl⟩⟩
 by_cases h4 : 4 ≤ n
 ·have hne : Hid (¬ (0 ≤ n ∧ n < 4)) := Hi (by omega)
  go_enter Try.func18, Try.ntmps18
  go_wp2_with fail
  go_ret2
  exact ⟨X0.out, Or.inl ⟨hne.out, rfl⟩⟩
 have hne : Hid (0 ≤ n ∧ n < 4) := Hi (by omega)
 go_enter Try.func18, Try.ntmps18
 go_wp2_with ((with_reducible refine so0 ?_ ?_); (focus rfl))
 (with_reducible refine ⟨?_⟩)
 change wpList _ _ _ _ _ (w.alloc (.cells ds 36))
 generalize (w.alloc (.cells ds 36)) = z0 at D0 X0 ⊢
 (with_reducible refine at_any ?_ ?_); (focus go_simp); refine fun K0 hK => ld_dgb _ w.heap.size kl rfl rfl HK.out D0.out (hK _ _ ?_)
 clear hK
 go_wp2_with ((with_reducible refine so0 ?_ ?_); (focus rfl))
 refine at9 (by go_simp) fun K0 hK => wp_build _ _ rfl _ (built_cl n kl HK.out) (hK _ _ ?_)
 clear hK
 go_wp2_with fail
 go_ret2
 exact ⟨Ex.trans X0.out (Ex.alloc _ _), Or.inr ⟨hne.out, z0.heap.size, rfl, ⟨Bk.new rfl _ _, World.ownsRow_nil _ _ _ _, X0.out.size, HK.out, hne.out.1, hne.out.2, Nat.zero_le _⟩⟩⟩
theorem asked_any (B C : Nat) (n : Int) (k : List UInt8) (rv : Value) (got : List Bool) (w : World) (h : CI w B C n k rv got) : Calls Try.prog 26 #[.pointer (some ⟨C, 0, none⟩)] w fun e w' => e = .returned (.int .u64 got.length) ∧ w = w' := by
 obtain ⟨ad, cap, hv, _, hc, hm, _⟩ := ownB_form h.row
 have c17 := h.c17
 have hf := h.few
 obtain ⟨m, hmm⟩ : ∃ m, m = got.length := ⟨_, rfl⟩
 rw [← hmm] at hv hf ⊢
 rw [hv] at c17
 clear hv h hmm hc hm
 go_enter Try.func26, Try.ntmps26
 go_wp2_with fail
 go_ret
 exact ⟨rfl, rfl⟩
def waits (got : List Bool) : Nat := got.countP (fun b => !b)
theorem waits_step {got : List Bool} {j : Nat} {b : Bool} (h : got[j]? = some b) : waits (got.take (j + 1)) = waits (got.take j) + (if b = true then 0 else 1) := by
 unfold waits
 rw [List.take_add_one, h, List.countP_append]
 cases b <;> rfl
theorem waits_le (l : List Bool) : waits l ≤ l.length := List.countP_le_length
theorem waits_any (B C : Nat) (n : Int) (k : List UInt8) (rv : Value) (got : List Bool) (w : World) (h : CI w B C n k rv got) : Calls Try.prog 25 #[.pointer (some ⟨C, 0, none⟩)] w fun e w' => e = .returned (.int .i64 (waits got)) ∧ w = w' := by
 obtain ⟨ad, cap, hv, hnil, hc, hm, hrd⟩ := ownB_form h.row
 have c17 := h.c17
 have hf := h.few
 obtain ⟨m, hmm⟩ : ∃ m, m = got.length := ⟨_, rfl⟩
 rw [← hmm] at hv hf hrd hc
 rw [hv] at c17
 have HM := Hi hmm
 have HR := Hi hrd
 clear hv h hmm hrd
 go_enter Try.func25, Try.ntmps25
 go_wp2_with fail
 go_loop [3, 11] (fun x i => ∃ j : Nat, j ≤ m ∧ i = .int .i64 j ∧ x = .int .i64 (waits (got.take j))) (fun _ i => m - (intOf i).toNat)
 case atStart => exact ⟨0, by omega, rfl, rfl⟩
 obtain ⟨j, hj, rfl, rfl⟩ := hrel
 by_cases hlt : j < m
 ·obtain ⟨b, hb⟩ : ∃ b, got[j]? = some b := ⟨_, List.getElem?_eq_getElem (by rw [← HM.out]; exact hlt)⟩
  obtain ⟨a, o, rfl, _, hcell⟩ := HR.out.read (by omega)
  have kc := hcell j (.bool b) (by rw [List.getElem?_map, hb]; rfl)
  have ST := Hi (waits_step hb)
  obtain ⟨z, hz⟩ : ∃ z, z = waits (got.take j) := ⟨_, rfl⟩
  have hz2 : z ≤ 1000 := by
   have h1 := waits_le (got.take j)
   rw [List.length_take] at h1; omega
  rw [← hz] at ST ⊢
  have q0 : (j : Int) < (m : Int) := by omega
  clear hb hcell hz
  cases b
  ·go_wp2_with fail
   refine ⟨⟨j + 1, by omega, by go_num, ?_⟩, by simp [intOf]; omega⟩
   rw [ST.out]; rfl
  go_wp2_with fail
  refine ⟨⟨j + 1, by omega, by go_num, ?_⟩, by simp [intOf]; omega⟩
  rw [ST.out]; rfl
 obtain rfl : j = m := by omega
 have q0 : ¬ (j : Int) < (j : Int) := by omega
 go_wp2_with fail
 go_ret
 exact ⟨by rw [List.take_of_length_le (by rw [HM.out]; exact Nat.le_refl _)]; rfl, rfl⟩
theorem rwaits_any (B C : Nat) (n : Int) (k : List UInt8) (rv : Value) (got : List Bool) (w : World) (h : DI w B C n k rv got) : Calls Try.prog 54 #[.pointer (some ⟨C, 0, none⟩)] w fun e w' => e = .returned (.int .i64 (waits got)) ∧ w = w' := by
 obtain ⟨ad, cap, hv, hnil, hc, hm, hrd⟩ := ownB_form h.row
 have c17 := h.c18
 have hf := h.few
 obtain ⟨m, hmm⟩ : ∃ m, m = got.length := ⟨_, rfl⟩
 rw [← hmm] at hv hf hrd hc
 rw [hv] at c17
 have HM := Hi hmm
 have HR := Hi hrd
 clear hv h hmm hrd
 go_enter Try.func54, Try.ntmps54
 go_wp2_with fail
 go_loop [3, 4] (fun x i => ∃ j : Nat, j ≤ m ∧ i = .int .i64 j ∧ x = .int .i64 (waits (got.take j))) (fun _ i => m - (intOf i).toNat)
 case atStart => exact ⟨0, by omega, rfl, rfl⟩
 obtain ⟨j, hj, rfl, rfl⟩ := hrel
 by_cases hlt : j < m
 ·obtain ⟨b, hb⟩ : ∃ b, got[j]? = some b := ⟨_, List.getElem?_eq_getElem (by rw [← HM.out]; exact hlt)⟩
  obtain ⟨a, o, rfl, _, hcell⟩ := HR.out.read (by omega)
  have kc := hcell j (.bool b) (by rw [List.getElem?_map, hb]; rfl)
  have ST := Hi (waits_step hb)
  obtain ⟨z, hz⟩ : ∃ z, z = waits (got.take j) := ⟨_, rfl⟩
  have hz2 : z ≤ 1000 := by
   have h1 := waits_le (got.take j)
   rw [List.length_take] at h1; omega
  rw [← hz] at ST ⊢
  have q0 : (j : Int) < (m : Int) := by omega
  clear hb hcell hz
  cases b
  ·go_wp2_with fail
   refine ⟨⟨j + 1, by omega, by go_num, ?_⟩, by simp [intOf]; omega⟩
   rw [ST.out]; rfl
  go_wp2_with fail
  refine ⟨⟨j + 1, by omega, by go_num, ?_⟩, by simp [intOf]; omega⟩
  rw [ST.out]; rfl
 obtain rfl : j = m := by omega
 have q0 : ¬ (j : Int) < (j : Int) := by omega
 go_wp2_with fail
 go_ret
 exact ⟨by rw [List.take_of_length_le (by rw [HM.out]; exact Nat.le_refl _)]; rfl, rfl⟩
end Go.Proofs.Ytopamplmpfndlaa.Cl
namespace Go.Proofs.Ytopamplmpfndlaa.Cl
open Go.RowKit
def ptr0 (i : Nat) : Value := .pointer (some ⟨i, 0, none⟩)
def MK (ia ic it ix il : Nat) (base : World) (c : Qc) (E : Int) (l : Array Bool) (f : Nat → Value) (W : World) : Prop :=
 Ex base W ∧ (l.getD il false = false → (l.getD ia false = true → ∃ i, f ia = ptr0 i ∧ base.heap.size ≤ i ∧ Bk W i 47 zeroQt.C.toArray)
  ∧ (l.getD ic false = true → ∃ y : Qt, f ic = .tuple #[y.V, .int .i64 E] ∧ (y.Ok ∧ PN W 0 y.sec) ∧ y.ct = c ∧ (l.getD it false = true → f it = f ic) ∧ (l.getD ix false = true → f ix = y.V)))
 ∧ (l.getD il false = true → ∃ i, ∃ y : Qt, f ia = ptr0 i ∧ base.heap.size ≤ i ∧ QB W i y ∧ PN W 0 y.sec ∧ y.ct = c)
section
variable {ia ic it ix il : Nat} {base : World} {c : Qc} {E : Int} {l : Array Bool} {f : Nat → Value} {W W' : World}
theorem MK.start (h0 : ∀ i, l.getD i false = false) (x : Ex base W) : MK ia ic it ix il base c E l f W :=
 ⟨x, fun _ => ⟨fun e => absurd e (by rw [h0]; decide), fun e => absurd e (by rw [h0]; decide)⟩, fun e => absurd e (by rw [h0]; decide)⟩
theorem MK.step (h : MK ia ic it ix il base c E l f W) {i : Nat} {v : Value} (ha : i ≠ ia) (hc : i ≠ ic) (ht : i ≠ it) (hx : i ≠ ix) (hl : i ≠ il) (x : Ex W W') : MK ia ic it ix il base c E (l.setIfInBounds i true) (upd f i v) W' := by
 unfold MK
 rw [gset ha, gset hc, gset ht, gset hx, gset hl, upd_ne _ _ (Ne.symm ha), upd_ne _ _ (Ne.symm hc), upd_ne _ _ (Ne.symm ht), upd_ne _ _ (Ne.symm hx)]
 refine ⟨h.1.trans x, fun n => ⟨fun e => ?_, fun e => ?_⟩, fun e => ?_⟩
 ·obtain ⟨i, a, b, d⟩ := (h.2.1 n).1 e
  exact ⟨i, a, b, d.ext x⟩
 ·obtain ⟨y, a, b, d⟩ := (h.2.1 n).2 e
  exact ⟨y, a, ⟨b.1, b.2.ext x⟩, d⟩
 obtain ⟨i, y, a, b, d, k, m⟩ := h.2.2 e
 exact ⟨i, y, a, b, d.ext x, k.ext x, m⟩
theorem MK.alloc (h : MK ia ic it ix il base c E l f W) (hc : ia ≠ ic) (ht : ia ≠ it) (hx : ia ≠ ix) (hl : ia ≠ il) (nl : l.getD il false = false) :
  MK ia ic it ix il base c E (l.setIfInBounds ia true) (upd f ia (ptr0 W.heap.size)) (W.alloc (.cells zeroQt.C.toArray 47)) := by
 unfold MK
 rw [gset hc, gset ht, gset hx, gset hl, upd_same, upd_ne _ _ (Ne.symm hc), upd_ne _ _ (Ne.symm ht), upd_ne _ _ (Ne.symm hx)]
 refine ⟨h.1.trans (Ex.alloc _ _), fun n => ⟨fun _ => ⟨W.heap.size, rfl, h.1.size, Bk.new rfl _ _⟩, fun e => ?_⟩, fun e => absurd e (by rw [nl]; decide)⟩
 obtain ⟨y, a, b, d⟩ := (h.2.1 n).2 e
 exact ⟨y, a, ⟨b.1, b.2.ext (Ex.alloc _ _)⟩, d⟩
theorem MK.call (h : MK ia ic it ix il base c E l f W) (ha : ic ≠ ia) (ht : ic ≠ it) (hx : ic ≠ ix) (hl : ic ≠ il) (nl : l.getD il false = false) (nt : l.getD it false = false) (nx : l.getD ix false = false) (x : Ex W W')
  (y : Qt) (hy : y.Ok ∧ PN W' 0 y.sec) (hct : y.ct = c) : MK ia ic it ix il base c E (l.setIfInBounds ic true) (upd f ic (.tuple #[y.V, .int .i64 E])) W' := by
 unfold MK
 rw [gset ha, gset ht, gset hx, gset hl, upd_same, upd_ne _ _ (Ne.symm ha), upd_ne _ _ (Ne.symm ht), upd_ne _ _ (Ne.symm hx)]
 refine ⟨h.1.trans x, fun n => ⟨fun e => ?_, fun _ => ⟨y, rfl, hy, hct, fun e => absurd e (by rw [nt]; decide), fun e => absurd e (by rw [nx]; decide)⟩⟩, fun e => absurd e (by rw [nl]; decide)⟩
 obtain ⟨i, a, b, d⟩ := (h.2.1 n).1 e
 exact ⟨i, a, b, d.ext x⟩
theorem MK.tup (h : MK ia ic it ix il base c E l f W) (ha : it ≠ ia) (hc : it ≠ ic) (hx : it ≠ ix) (hl : it ≠ il) (nl : l.getD il false = false) (nx : l.getD ix false = false) :
  MK ia ic it ix il base c E (l.setIfInBounds it true) (upd f it (f ic)) W := by
 unfold MK
 rw [gset ha, gset hc, gset hx, gset hl, upd_same, upd_ne _ _ (Ne.symm ha), upd_ne _ _ (Ne.symm hc), upd_ne _ _ (Ne.symm hx)]
 refine ⟨h.1, fun n => ⟨(h.2.1 n).1, fun e => ?_⟩, fun e => absurd e (by rw [nl]; decide)⟩
 obtain ⟨y, a, b, d, k, m⟩ := (h.2.1 n).2 e
 exact ⟨y, a, b, d, fun _ => rfl, m⟩
theorem MK.ext (h : MK ia ic it ix il base c E l f W) (ha : ix ≠ ia) (hc : ix ≠ ic) (ht : ix ≠ it) (hl : ix ≠ il) (nl : l.getD il false = false) (lt : l.getD it false = true) {z : Value} (hz : f it = .tuple #[z, .int .i64 E]) :
  MK ia ic it ix il base c E (l.setIfInBounds ix true) (upd f ix z) W := by
 unfold MK
 rw [gset ha, gset hc, gset ht, gset hl, upd_same, upd_ne _ _ (Ne.symm ha), upd_ne _ _ (Ne.symm hc), upd_ne _ _ (Ne.symm ht)]
 refine ⟨h.1, fun n => ⟨(h.2.1 n).1, fun e => ?_⟩, fun e => absurd e (by rw [nl]; decide)⟩
 obtain ⟨y, a, b, d, k, m⟩ := (h.2.1 n).2 e
 refine ⟨y, a, b, d, k, fun _ => ?_⟩
 have q := k lt
 rw [a, hz] at q
 injection q with q
 have q := congrArg (fun (r : Array Value) => r[0]?) q
 simpa using q
theorem MK.store (h : MK ia ic it ix il base c E l f W) (ha : il ≠ ia) {i : Nat} {y : Qt} (hi : f ia = ptr0 i) (hb : base.heap.size ≤ i) (hB : Bk W i 47 zeroQt.C.toArray) (hp : PN W 0 y.sec) (hc : y.ct = c) (hs : il < l.size) (hd : QB W' i y) (ho : Only i W W') {v : Value} :
  MK ia ic it ix il base c E (l.setIfInBounds il true) (upd f il v) W' := by
 unfold MK
 rw [set_new hs, upd_ne _ _ (Ne.symm ha)]
 exact ⟨ho.below base.heap.size hb _ h.1, fun e => by simp at e, fun _ => ⟨i, y, hi, hb, hd, hp.onlyT ho hB (by decide), hc⟩⟩
end
end Go.Proofs.Ytopamplmpfndlaa.Cl
namespace Go.Proofs.Ytopamplmpfndlaa.Sm
open Go.RowKit
def OwnTup (L : List UInt8) (E : Int) (w : World) (e : Ending) (w' : World) : Prop := ∃ v, e = .returned (.tuple #[v, .int .i64 E]) ∧ ownU w' w.heap.size v L ∧ Ex w w'
theorem closeO_any (kl : List UInt8) (hk : kl.length = 16) (n : Int) (n0 : 0 ≤ n) (n1 : n < 18446744073709551616) (to : UInt8) (p : Pt) (w : World) (hp : p.In w w.heap.size) (hl : p.l.length ≤ 8176) :
  Calls Try.prog 36 #[digV kl, .int .u64 n, .int .u8 to.toNat, p.V] w (OwnTup (closeL kl n to p.l) 0 w) := by
 obtain ⟨cs, hcs⟩ : ∃ cs, cs = (Lib.byteCells kl).toArray := ⟨_, rfl⟩
 have hv : digV kl = .agg cs := by rw [hcs]; rfl
 have A1 : Hid (DB (w.alloc (.cells cs 36)) w.heap.size kl) := by rw [hcs]; exact Hi (DB.new rfl hk)
 have bw : Below w.heap.size w (w.alloc (.cells cs 36)) := (Below.refl _ _).alloc (Nat.le_refl _) _
 obtain ⟨m, hm'⟩ : ∃ m, m = p.l.length := ⟨_, rfl⟩
 obtain ⟨X, hX⟩ : ∃ X, X = innerL kl n := ⟨_, rfl⟩
 have HX := Hi (show X.length = 16 by rw [hX]; exact innerL_len _ _)
 obtain ⟨S, hS⟩ : ∃ S, S = sealL X n [to] p.l := ⟨_, rfl⟩
 have HR := Hi (show closeL kl n to p.l = numL n ++ S by unfold closeL; rw [hS, hX])
 obtain ⟨ls, hls⟩ : ∃ x, x = S.length := ⟨_, rfl⟩
 have HSl := Hi hls.symm
 have hls2 : ls ≤ 8184 := by rw [hls, hS, sealL_len]; omega
 have NN := Hi (numberP n n0 n1)
 have IN := Hi (fun W => by have h := inner_any kl hk n n0 n1 W; rw [← hX] at h; exact h)
 have SE := Hi (fun (W : World) (r : Pt) (hr : r.l = [to]) (i1 : r.In W W.heap.size) (i2 : p.In W W.heap.size) => by
  have h := seal_any X HX.out n n0 n1 r p W i1 i2 (by rw [hr]; simp) (by omega)
  rw [hr, ← hS] at h
  exact h)
 have HP := Hi (hp.ext bw)
 have hpv : p.V = .slice p.ad m p.cap := by unfold Pt.V; rw [hm']
 rw [← hm'] at hl
 have HPV := Hi hpv
 rw [hv, hpv]
 clear hv hcs hm' hpv hp hk hX hS hls
 go_enter Try.func36, Try.ntmps36
 go_wp2_with ((with_reducible refine at_any ?_ ?_); (focus go_simp); (refine fun K hK => wp_ld _ _ kl rfl rfl A1.out (hK _ _ ?_)))
 obtain ⟨w1, hw1⟩ : ∃ w1, w1 = w.alloc (.cells cs 36) := ⟨_, rfl⟩
 rw [← hw1] at A1 bw HP ⊢
 clear hw1
 refine (IN.out _).mono ?_
 rintro e w2 ⟨rfl, x2⟩
 go_wp2_with fail
 obtain ⟨W3, hW3⟩ : ∃ W, W = w2.alloc (.cells #[.int .u8 to.toNat] 5) := ⟨_, rfl⟩
 have x3 : Ex w2 W3 := by rw [hW3]; exact (Below.refl _ _).alloc (Nat.le_refl _) _
 have i3 : (Pt.mk (some ⟨w2.heap.size, 0, none⟩) 1 [to]).In W3 W3.heap.size := by
  have h := lit_pt w2 [to] (0, 0)
  rw [hW3]; exact h
 rw [← hW3]
 have SC := SE.out W3 _ rfl i3 (HP.out.ext (Ex.trans x2 x3))
 rw [HPV.out] at SC
 have SC : Hid (Calls Try.prog 75 #[digV X, .int .u64 n, .slice (some ⟨w2.heap.size, 0, none⟩) 1 1, .slice p.ad m p.cap] W3 (PtPost S W3)) := Hi SC
 have bw3 : Below w.heap.size w W3 := bw.trans ((Ex.trans x2 x3).mono bw.size)
 have bz3 := bw3.size
 clear hW3 x3 i3 x2 SE IN A1 HP bw
 refine SC.out.mono ?_
 rintro e w4 ⟨q, rfl, ql, qi, x4⟩
 have hqv : q.V = .slice q.ad ls q.cap := by unfold Pt.V; rw [ql, HSl.out]
 rw [hqv]
 have QL := Hi ql
 have QI := Hi qi
 have HQV := Hi hqv
 have bw4 : Below w.heap.size w w4 := bw3.trans (x4.mono bz3)
 clear SC x4 bw3 bz3 ql qi hqv
 go_wp2_with fail
 refine (NN.out _).mono ?_
 rintro e w5 ⟨r, rfl, rl, ri, x5⟩
 have hrv : r.V = .slice r.ad 8 r.cap := by unfold Pt.V; rw [rl]; rfl
 rw [hrv]
 have bw5 : Below w.heap.size w w5 := bw4.trans (x5.mono bw4.size)
 have QI := Hi (QI.out.ext x5)
 have x6 : Ex w5 (w5.alloc (.cells #[.slice r.ad 8 r.cap, .slice q.ad ls q.cap] 23)) := (Below.refl _ _).alloc (Nat.le_refl _) _
 have BK := Bk.new (w := w5) rfl 23 #[.slice r.ad 8 r.cap, .slice q.ad ls q.cap]
 have CC := concat_any [r, q] w5.heap.size 2 (w5.alloc (.cells #[.slice r.ad 8 r.cap, .slice q.ad ls q.cap] 23)) BK.lt (by
  intro i y hr
  match i, hr with
  | 0, hr =>
   obtain rfl : r = y := by simpa using hr
   exact ⟨by rw [BK.cell, hrv]; rfl, ri.ext x6⟩
  | 1, hr =>
   obtain rfl : q = y := by simpa using hr
   exact ⟨by rw [BK.cell, HQV.out]; rfl, QI.out.ext x6⟩
  | i + 2, hr => simp at hr) (by simp [flatL, rl, QL.out, numL, HSl.out]; omega) (by simp)
 have eL : flatL [r, q] 2 = numL n ++ S := by simp [flatL, rl, QL.out]
 have CC : Hid (Calls Try.prog 76 #[.slice (some ⟨w5.heap.size, 0, none⟩) 2 2] (w5.alloc (.cells #[.slice r.ad 8 r.cap, .slice q.ad ls q.cap] 23)) (ConcatPost (numL n ++ S) (w5.alloc (.cells #[.slice r.ad 8 r.cap, .slice q.ad ls q.cap] 23)))) := by rw [← eL]; exact Hi CC
 have bw6 : Below w.heap.size w (w5.alloc (.cells #[.slice r.ad 8 r.cap, .slice q.ad ls q.cap] 23)) := bw5.trans (x6.mono bw5.size)
 clear BK eL x6 hrv rl ri QI QL x5 bw4 bw5 NN
 go_wp2_with fail
 refine CC.out.mono ?_
 rintro e w7 ⟨v, rfl, own, x7⟩
 have bw7 : Below w.heap.size w w7 := bw6.trans (x7.mono bw6.size)
 have OW := Hi (own_less own bw6.size)
 rw [← HR.out] at OW
 clear CC own x7 bw6
 go_wp2_with fail
 go_ret2
 exact ⟨v, rfl, OW.out, bw7⟩
end Go.Proofs.Ytopamplmpfndlaa.Sm
namespace Go.Proofs.Ytopamplmpfndlaa.Cl
open Go.RowKit
theorem ofSm_own {w : World} {B : Nat} {v : Value} {l : List UInt8} (h : Sm.ownU w B v l) : ownU w B v l := h
theorem by8_small {n : Int} (h0 : 0 ≤ n) (h1 : n < 256) : ((Sm.by8 n).toNat : Int) = n := by
 rw [Sm.by8_int]
 omega
theorem close9_any (kl : List UInt8) (hk : kl.length = 16) (n : Int) (n0 : 0 ≤ n) (n1 : n < 18446744073709551616) (to : Int) (t0 : 0 ≤ to) (t1 : to < 256) (p : Pt) (w : World) (hp : p.In w w.heap.size) (hl : p.l.length ≤ 8176) :
  Calls Try.prog 36 #[digV kl, .int .u64 n, .int .u8 to, p.V] w (Sm.OwnTup (Sm.closeL kl n (Sm.by8 to) p.l) 0 w) := by
 have h := Sm.closeO_any kl hk n n0 n1 (Sm.by8 to) (toSm p) w (in_sm hp) hl
 rw [by8_small t0 t1] at h
 exact h
end Go.Proofs.Ytopamplmpfndlaa.Cl
namespace Go.Proofs.Ytopamplmpfndlaa.Sm
open Go.RowKit
theorem wp_growO {o : Oper} {a : Act} {w : World} {K : Act → World → Prop} {Q : Exit → Act → World → Prop} (s x : Operand)
  (hop : o.op = .call { callee := .builtin .append, args := #[s, x], argTypes := #[23, 23] }) (p q : Pt) (hs : a.eval s = p.V) (hx : a.eval x = q.V)
  (hp : p.In w w.heap.size) (hq : q.In w w.heap.size) (hf : p.cap < p.l.length + q.l.length) (hN : p.l.length + q.l.length ≤ 100000000000000)
  (h : ∀ (v : Value) w', ownU w' w.heap.size v (p.l ++ q.l) → Ex w w' → K (a.put o.dst v) w') : o.wp Try.prog a w K Q := by
 obtain ⟨i0, hi0, hz0, hz1, hz2⟩ := info_parts sm_u8
 have hq0 : 0 < q.l.length := by have := hp.cap; omega
 obtain ⟨aq, hqa, hqc⟩ := hq.cells hq0
 have key : ∃ v' w', (Builtin.append_ #[23, 23] o.type #[p.V, q.V]).run Try.prog w = .ok v' w' ∧ w'.ownsRow w.heap.size 5 1 v' (p.l.length + q.l.length) (Lib.byteCells p.l ++ Lib.byteCells q.l) ∧ w.grownBy w' none := by
  unfold Pt.V
  rw [hqa]
  cases hpa : p.ad with
  | none =>
   have hc0 := hp.nil hpa
   have hl0 : p.l = [] := List.eq_nil_of_length_eq_zero (by have := hp.cap; omega)
   obtain ⟨v', w', hr, r1, r2, _⟩ := run_append_own (P := Try.prog) w w.heap.size 23 o.type 5 i0 _ 1 1 Try.underlying23 hi0 hz0 hz1 hz2 rfl (by omega) (.slice none 0 0) 0 [] (World.ownsRow_nil w _ 5 1) aq q.l.length q.cap (Lib.byteCells q.l) (by simp [Lib.byteCells]) hqc (fun u hu => by
    unfold Lib.byteCells at hu; simp at hu; obtain ⟨b, _, rfl⟩ := hu; rfl) (by unfold maxLen; omega) (by omega) (Nat.le_refl _)
   rw [hc0, hl0]
   exact ⟨v', w', hr, r1, r2⟩
  | some ap =>
   refine run_append_arg_grows (P := Try.prog) w 23 o.type 5 i0 _ 1 1 Try.underlying23 hi0 hz0 hz1 hz2 rfl (by omega) ap p.l.length p.cap (Lib.byteCells p.l) (by simp [Lib.byteCells]) ?_ aq q.l.length q.cap (Lib.byteCells q.l) (by simp [Lib.byteCells]) hqc hf (by unfold maxLen; omega) (by omega)
   intro j u hu
   have hj : 0 < p.l.length := by have := (List.getElem?_eq_some_iff.1 hu).1; simp [Lib.byteCells] at this; omega
   obtain ⟨ap', e, hc⟩ := hp.cells hj
   rw [hpa] at e; cases e
   exact hc j u hu
 obtain ⟨v', w', hrun, r1, r2⟩ := key
 have own : ownU w' w.heap.size v' (p.l ++ q.l) := by
  unfold ownU
  rw [List.length_append, byteCells_app]; exact r1
 unfold Oper.wp
 simp [execOp, hop, resolve, invoke, builtin, hs, hx, hrun, Result.andThen]
 exact h v' w' own ((Below.refl _ _).grown r2 (Nat.le_refl _) (fun k hk => by cases hk))
theorem rcloseO_any (kl : List UInt8) (hk : kl.length = 16) (n : Int) (n0 : 0 ≤ n) (n1 : n < 18446744073709551616) (to : UInt8) (p : Pt) (w : World) (hp : p.In w w.heap.size) (hl : p.l.length ≤ 8176) :
  Calls Try.prog 21 #[digV kl, .int .u64 n, .int .u8 to.toNat, p.V] w (OwnTup (closeL kl n to p.l) 0 w) := by
 obtain ⟨cs, hcs⟩ : ∃ cs, cs = (Lib.byteCells kl).toArray := ⟨_, rfl⟩
 have hv : digV kl = .agg cs := by rw [hcs]; rfl
 have HA : Hid (DB (w.alloc (.cells cs 36)) w.heap.size kl) := by rw [hcs]; exact Hi (DB.new rfl hk)
 have bw : Below w.heap.size w (w.alloc (.cells cs 36)) := (Below.refl _ _).alloc (Nat.le_refl _) _
 obtain ⟨m, hm'⟩ : ∃ m, m = p.l.length := ⟨_, rfl⟩
 obtain ⟨pL, hpL⟩ : ∃ m, m = p.l := ⟨_, rfl⟩
 obtain ⟨X, hX⟩ : ∃ X, X = innerL kl n := ⟨_, rfl⟩
 have hXl : X.length = 16 := by rw [hX]; exact innerL_len _ _
 obtain ⟨S, hS⟩ : ∃ S, S = sealL X n [to] pL := ⟨_, rfl⟩
 have HR := Hi (show closeL kl n to p.l = numL n ++ S by unfold closeL; rw [hS, hX, hpL])
 obtain ⟨ls, hls⟩ : ∃ x, x = S.length := ⟨_, rfl⟩
 have HSl := Hi hls.symm
 have hls2 : ls ≤ 8184 ∧ 8 ≤ ls := by rw [hls, hS, sealL_len, hpL]; omega
 have NN := Hi (rnumberF n n0 n1)
 have IN := Hi (fun W => by have h := rinner_any kl hk n n0 n1 W; rw [← hX] at h; exact h)
 have SE := Hi (show ∀ (W : World) (r t : Pt), r.l = [to] → t.l = pL → r.In W W.heap.size → t.In W W.heap.size → Calls Try.prog 60 #[digV X, .int .u64 n, r.V, t.V] W (PtPost S W) from fun W r t hr ht i1 i2 => by
  have h := rseal_any X hXl n n0 n1 r t W i1 i2 (by rw [hr]; simp) (by rw [ht, hpL]; omega)
  rw [hr, ht, ← hS] at h
  exact h)
 have hpi := hp.ext bw
 have hpv : p.V = .slice p.ad m p.cap := by unfold Pt.V; rw [hm']
 rw [← hm'] at hl
 have hpl : p.l = pL := hpL.symm
 have HPV := Hi hpv
 have bz := bw.size
 rw [HR.out, hv, hpv]
 clear hv hcs hm' hpL hpv hp hk hX hS hls
 go_enter Try.func21, Try.ntmps21
 go_wp2_with fail
 generalize w.alloc (.cells cs 36) = wr at *
 rw [← HPV.out]
 obtain ⟨T, hT⟩ : ∃ T : List As3, T = [.is (.int .u64 n), .full (numL n), .is (digV kl), .is (.int .u64 n), .is (digV X), .is (.int .u64 n), .is (.int .u8 to.toNat), .pt [to], .pt pL, .pt S, .own w.heap.size (numL n ++ S), .own w.heap.size (numL n ++ S)] := ⟨_, rfl⟩
 refine wp_region_flow 12 (tabPhi3 T) (by kernel_rfl) rfl (by kernel_rfl) (by kernel_rfl) (by kernel_rfl) (tabPhi3_stable T) (fitB_spec (by kernel_rfl)) ?_ ?_
 ·intro i o hi ho
  have hi' : i = 0 ∨ i = 1 ∨ i = 2 ∨ i = 3 ∨ i = 4 ∨ i = 5 ∨ i = 6 ∨ i = 7 ∨ i = 8 ∨ i = 9 ∨ i = 10 ∨ i = 11 := by omega
  rcases hi' with rfl | rfl | rfl | rfl | rfl | rfl | rfl | rfl | rfl | rfl | rfl | rfl
  all_goals (simp only [List.getElem?_toArray, List.getElem?_cons_zero, List.getElem?_cons_succ, Option.some.injEq] at ho; subst ho; intro a w2 hx hsz hdep hout)
  ·rw [if_pos (by rfl)]
   intro K hK
   have f := hout 1 ob
   exact wp_mv _ rfl (hK _ _ (Ex.refl _) (by rw [hT]; exact f))
  ·rw [if_pos (by rfl)]
   intro K hK
   obtain ⟨v, hv, kv⟩ := hdep ⟨0, .data⟩ (by simp) rfl _ rfl
   have qv := kv _ rfl
   rw [hT] at hv
   obtain rfl : v = .int .u64 n := hv
   go_simp
   refine (NN.out w2).mono ?_
   rintro e w3 ⟨p, rfl, hl, hc, hin, hex⟩
   exact hK _ _ hex (by rw [hT]; exact ⟨p, rfl, hl, hc, hin⟩)
  ·rw [if_pos (by rfl)]
   intro K hK
   have f := hout 4 ob
   exact wp_ld _ w.heap.size kl rfl f (HA.out.ext (Ex.trans (show Ex wr wr.drew from (Below.refl _ _).drew) hx)) (hK _ _ (Ex.refl _) (by rw [hT]; rfl))
  ·rw [if_pos (by rfl)]
   intro K hK
   have f := hout 1 ob
   exact wp_mv _ rfl (hK _ _ (Ex.refl _) (by rw [hT]; exact f))
  ·rw [if_pos (by rfl)]
   intro K hK
   obtain ⟨v, hv, kv⟩ := hdep ⟨2, .data⟩ (by simp) rfl _ rfl
   have qv := kv _ rfl
   rw [hT] at hv
   obtain rfl : v = digV kl := hv
   obtain ⟨u, hu, ku⟩ := hdep ⟨3, .data⟩ (by simp) rfl _ rfl
   have qu := ku _ rfl
   rw [hT] at hu
   obtain rfl : u = .int .u64 n := hu
   go_simp
   refine (IN.out w2).mono ?_
   rintro e w3 ⟨rfl, hex⟩
   exact hK _ _ hex (by rw [hT]; rfl)
  ·rw [if_pos (by rfl)]
   intro K hK
   have f := hout 1 ob
   exact wp_mv _ rfl (hK _ _ (Ex.refl _) (by rw [hT]; exact f))
  ·rw [if_pos (by rfl)]
   intro K hK
   have f := hout 2 ob
   exact wp_mv _ rfl (hK _ _ (Ex.refl _) (by rw [hT]; exact f))
  ·rw [if_pos (by rfl)]
   intro K hK
   obtain ⟨v, hv, kv⟩ := hdep ⟨6, .data⟩ (by simp) rfl _ rfl
   have qv := kv _ rfl
   rw [hT] at hv
   obtain rfl : v = .int .u8 to.toNat := hv
   have q : a.tmps[19]?.getD undef = .int .u8 to.toNat := by rw [← Array.getD_eq_getD_getElem?]; exact qv
   clear hsz hdep hout kv qv
   go_simp
   have hex : Ex w2 (w2.alloc (.cells #[.int .u8 to.toNat] 5)) := (Below.refl _ _).alloc (Nat.le_refl _) _
   exact hK _ _ hex (by rw [hT]; exact ⟨⟨some ⟨w2.heap.size, 0, none⟩, 1, [to]⟩, rfl, rfl, by have h := lit_pt w2 [to] (0, 0); exact h⟩)
  ·rw [if_pos (by rfl)]
   intro K hK
   have f := hout 3 ob
   exact wp_mv _ rfl (hK _ _ (Ex.refl _) (by rw [hT]; exact ⟨p, f, hpl, hpi.ext (Ex.trans (show Ex wr wr.drew from (Below.refl _ _).drew) hx)⟩))
  ·rw [if_pos (by rfl)]
   intro K hK
   obtain ⟨v, hv, kv⟩ := hdep ⟨4, .data⟩ (by simp) rfl _ rfl
   have qv := kv _ rfl
   rw [hT] at hv
   obtain rfl : v = digV X := hv
   obtain ⟨u, hu, ku⟩ := hdep ⟨5, .data⟩ (by simp) rfl _ rfl
   have qu := ku _ rfl
   rw [hT] at hu
   obtain rfl : u = .int .u64 n := hu
   obtain ⟨x, hx, kx⟩ := hdep ⟨7, .data⟩ (by simp) rfl _ rfl
   have qx := kx _ rfl
   rw [hT] at hx
   obtain ⟨px, rfl, lx, ix⟩ := hx
   obtain ⟨y, hy, ky⟩ := hdep ⟨8, .data⟩ (by simp) rfl _ rfl
   have qy := ky _ rfl
   rw [hT] at hy
   obtain ⟨py, rfl, ly, iy⟩ := hy
   go_simp
   refine (SE.out w2 _ _ lx ly ix iy).mono ?_
   rintro e w3 ⟨p, rfl, hl, hin, hex⟩
   exact hK _ _ hex (by rw [hT]; exact ⟨p, rfl, hl, hin⟩)
  ·rw [if_pos (by rfl)]
   intro K hK
   obtain ⟨v, hv, kv⟩ := hdep ⟨1, .data⟩ (by simp) rfl _ rfl
   have qv := kv _ rfl
   rw [hT] at hv
   obtain ⟨pv, rfl, lv, cv, iv⟩ := hv
   obtain ⟨u, hu, ku⟩ := hdep ⟨9, .data⟩ (by simp) rfl _ rfl
   have qu := ku _ rfl
   rw [hT] at hu
   obtain ⟨pu, rfl, lu, iu⟩ := hu
   refine wp_growO (.tmp 14) (.tmp 22) rfl pv pu ?_ ?_ iv iu (by rw [cv, lv, lu, HSl.out]; simp [numL]; omega) (by rw [lv, lu, HSl.out]; simp [numL]; omega) ?_
   ·simpa [Act.eval, Array.getD_eq_getD_getElem?] using qv
   ·simpa [Act.eval, Array.getD_eq_getD_getElem?] using qu
   intro r w3 ho hex
   rw [lv, lu] at ho
   exact hK _ _ hex (by rw [hT]; exact own_less ho (Nat.le_trans bz (Nat.le_trans (show wr.heap.size ≤ wr.drew.heap.size from Nat.le_refl _) hx.size)))
  rw [if_pos (by rfl)]
  intro K hK
  obtain ⟨v, hv, kv⟩ := hdep ⟨10, .data⟩ (by simp) rfl _ rfl
  have qv := kv _ rfl
  rw [hT] at hv
  have hv : ownU w2 w.heap.size v (numL n ++ S) := hv
  have qw : a.eval (.tmp 23) = v := qv
  exact wp_asg2 _ rfl (hK _ _ (Ex.refl _) (by rw [hT]; rw [qw]; exact hv))
 intro a w2 hx hdef hsz hdone hout
 obtain ⟨sa, hsa, ksa⟩ := hdone 11 _ (by omega) rfl
 have qsa := ksa _ rfl
 rw [hT] at hsa
 have hsa : ownU w2 w.heap.size sa (numL n ++ S) := hsa
 clear hdone ksa hT
 have hA := arr_range a.tmps 24 hsz
 change a.tmps = #[a.tmps[0]?.getD undef, a.tmps[1]?.getD undef, a.tmps[2]?.getD undef, a.tmps[3]?.getD undef, a.tmps[4]?.getD undef, a.tmps[5]?.getD undef, a.tmps[6]?.getD undef, a.tmps[7]?.getD undef, a.tmps[8]?.getD undef, a.tmps[9]?.getD undef, a.tmps[10]?.getD undef, a.tmps[11]?.getD undef, a.tmps[12]?.getD undef, a.tmps[13]?.getD undef, a.tmps[14]?.getD undef, a.tmps[15]?.getD undef, a.tmps[16]?.getD undef, a.tmps[17]?.getD undef, a.tmps[18]?.getD undef, a.tmps[19]?.getD undef, a.tmps[20]?.getD undef, a.tmps[21]?.getD undef, a.tmps[22]?.getD undef, a.tmps[23]?.getD undef] at hA
 have e0 := hout 0 (fun i o _ h => outB_spec (by kernel_rfl) i o h)
 have e1 := hout 1 (fun i o _ h => outB_spec (by kernel_rfl) i o h)
 have e2 := hout 2 (fun i o _ h => outB_spec (by kernel_rfl) i o h)
 have e3 := hout 3 (fun i o _ h => outB_spec (by kernel_rfl) i o h)
 have e4 := hout 4 (fun i o _ h => outB_spec (by kernel_rfl) i o h)
 have e5 := hout 5 (fun i o _ h => outB_spec (by kernel_rfl) i o h)
 have e6 := hout 6 (fun i o _ h => outB_spec (by kernel_rfl) i o h)
 have e7 := hout 7 (fun i o _ h => outB_spec (by kernel_rfl) i o h)
 have e10 := hout 10 (fun i o _ h => outB_spec (by kernel_rfl) i o h)
 have e11 := hout 11 (fun i o _ h => outB_spec (by kernel_rfl) i o h)
 have e12 := hout 12 (fun i o _ h => outB_spec (by kernel_rfl) i o h)
 simp only [Array.getD_eq_getD_getElem?, List.getElem?_toArray, List.getElem?_cons_zero, List.getElem?_cons_succ, Option.getD_some] at e0 e1 e2 e3 e4 e5 e6 e7 e10 e11 e12
 rw [e0, e1, e2, e3, e4, e5, e6, e7, e10, e11, e12] at hA
 clear e0 e1 e2 e3 e4 e5 e6 e7 e10 e11 e12 hout
 have hds2 : a.defers = [] := hdef
 have ea : a = ⟨a.tmps, a.defers⟩ := rfl
 have s8 : a.tmps[8]?.getD undef = sa := by simpa [Array.getD_eq_getD_getElem?] using qsa
 rw [hA, hds2, s8] at ea
 clear hA hds2 s8 qsa hdef
 generalize a.tmps[13]?.getD undef = y13 at ea
 generalize a.tmps[14]?.getD undef = y14 at ea
 generalize a.tmps[15]?.getD undef = y15 at ea
 generalize a.tmps[16]?.getD undef = y16 at ea
 generalize a.tmps[17]?.getD undef = y17 at ea
 generalize a.tmps[18]?.getD undef = y18 at ea
 generalize a.tmps[19]?.getD undef = y19 at ea
 generalize a.tmps[20]?.getD undef = y20 at ea
 generalize a.tmps[21]?.getD undef = y21 at ea
 generalize a.tmps[22]?.getD undef = y22 at ea
 generalize a.tmps[23]?.getD undef = y23 at ea
 generalize a.tmps[9]?.getD undef = y9 at ea
 clear hsz
 subst ea
 have bx : Below wr.heap.size wr w2 := Below.trans (Below.refl _ _).drew hx
 unfold wpOp
 simp only [List.getElem?_toArray, List.getElem?_cons_zero, List.getElem?_cons_succ]
 rw [if_pos (by rfl)]
 left
 have bw3 := bw.trans (bx.mono bz)
 have SO := Hi hsa
 clear hsa bx hx hpi
 go_simp
 go_wp2_with fail
 go_ret2
 exact ⟨sa, rfl, SO.out, bw3⟩
end Go.Proofs.Ytopamplmpfndlaa.Sm
namespace Go.Proofs.Ytopamplmpfndlaa.Cl
open Go.RowKit
theorem rclose9_any (kl : List UInt8) (hk : kl.length = 16) (n : Int) (n0 : 0 ≤ n) (n1 : n < 18446744073709551616) (to : Int) (t0 : 0 ≤ to) (t1 : to < 256) (p : Pt) (w : World) (hp : p.In w w.heap.size) (hl : p.l.length ≤ 8176) :
  Calls Try.prog 21 #[digV kl, .int .u64 n, .int .u8 to, p.V] w (Sm.OwnTup (Sm.closeL kl n (Sm.by8 to) p.l) 0 w) := by
 have h := Sm.rcloseO_any kl hk n n0 n1 (Sm.by8 to) (toSm p) w (in_sm hp) hl
 rw [by8_small t0 t1] at h
 exact h
end Go.Proofs.Ytopamplmpfndlaa.Cl
namespace Go.Proofs.Ytopamplmpfndlaa
open Go.RowKit
section
variable {P : Program} {ops : Array Oper} {rest : List Oper} {d : Option Tmp} {t2 : TypeId} {pos : String} {af : Array Edge} {g : Option (Nat × Bool)} {a : Act} {w : World} {Q : Exit → Act → World → Prop}
end
end Go.Proofs.Ytopamplmpfndlaa
namespace Go.Proofs.Ytopamplmpfndlaa
open Go.RowKit
structure Tc (D : Nat) (r : Option Nat) (w w' : World) : Prop where
 os : w'.os = w.os
 tape : w'.tape = w.tape
 output : w'.output = w.output
 size : w.heap.size ≤ w'.heap.size
 block : ∀ k, k < w.heap.size → k ≠ D → some k ≠ r → w'.heap[k]? = w.heap[k]?
theorem Ex.tc {w w' : World} (D : Nat) (r : Option Nat) (h : Ex w w') : Tc D r w w' := ⟨h.os, h.tape, h.output, Below.size h, fun k hk _ _ => h.block k hk⟩
theorem grownBy_tc {w w' : World} (D : Nat) {r : Option Nat} (h : w.grownBy w' r) : Tc D r w w' := ⟨h.os, h.tape, h.output, h.size, fun k hk _ hr => h.block k hk hr⟩
theorem Only.tc {w w' : World} {g D : Nat} {r : Option Nat} (h : Only g w w') (hg : g = D ∨ r = some g) : Tc D r w w' := by
 have hb := h.below 0 (Nat.zero_le _) w (Below.refl 0 w)
 refine ⟨hb.os, hb.tape, hb.output, by rw [h.size]; exact Nat.le_refl _, fun k _ h1 h2 => h.other k ?_⟩
 rintro rfl
 rcases hg with e | e
 ·exact h1 e
 exact h2 e.symm
theorem Tc.trans {D : Nat} {r r' : Option Nat} {a b c : World} (h : Tc D r a b) (k : Tc D r' b c) (hr : r' = r ∨ ∀ g, r' = some g → a.heap.size ≤ g) : Tc D r a c :=
 ⟨k.os.trans h.os, k.tape.trans h.tape, k.output.trans h.output, Nat.le_trans h.size k.size, fun i hi h1 h2 => (k.block i (Nat.lt_of_lt_of_le hi h.size) h1 (by
  rcases hr with e | e
  ·rw [e]; exact h2
  ·intro he; have := e i he.symm; omega)).trans (h.block i hi h1 h2)⟩
theorem Tc.ex {D : Nat} {r : Option Nat} {w0 w w' : World} (k : Tc D r w w') (h : Ex w0 w) (hD : w0.heap.size ≤ D) (hr : ∀ g, r = some g → w0.heap.size ≤ g) : Ex w0 w' :=
 ⟨k.os.trans h.os, k.tape.trans h.tape, k.output.trans h.output, Nat.le_trans (Below.size h) k.size, fun i hi => (k.block i (Nat.lt_of_lt_of_le hi (Below.size h)) (by omega) (fun e => by have := hr i e.symm; omega)).trans (h.block i hi)⟩
theorem Tc.bk {D g : Nat} {r : Option Nat} {w w' : World} {t : TypeId} {cs : Array Value} (k : Tc D r w w') (hb : Bk w g t cs) (h1 : g ≠ D) (h2 : some g ≠ r) : Bk w' g t cs := (k.block g hb.lt h1 h2).trans hb
theorem Lies.ex {a b : World} {v v' : Value} (h : Lies b v v') (k : Ex a b) : Lies a v v' := h.imp id fun h g hg => Nat.le_trans (Below.size k) (h g hg)
theorem own_store {w : World} {B sz n : Nat} {v : Value} {xs : List Value} {e : TypeId} (h : w.ownsRow B e sz v n xs) (p : Nat) (hp : p < n) : ∃ (g cap : Nat) (C : List Value), v = .slice (some ⟨g, 0, none⟩) n cap ∧ B ≤ g ∧ Bk w g e C.toArray ∧ p * sz + sz ≤ C.length ∧ n ≤ cap ∧
  ∀ ds : List Value, ds.length = sz → ∀ w', Bk w' g e (C.take (p * sz) ++ ds ++ C.drop (p * sz + ds.length)).toArray → w'.ownsRow B e sz v n (xs.take (p * sz) ++ ds ++ xs.drop (p * sz + ds.length)) := by
 obtain ⟨h1, ⟨hv, h0⟩ | ⟨g, cap, cur, rfl, hb, hh, hc, hm, hs, ht⟩⟩ := h
 ·omega
 have hps : p * sz + sz ≤ n * sz := by rw [← Nat.succ_mul]; exact Nat.mul_le_mul_right _ hp
 have hns : n * sz ≤ cap * sz := Nat.mul_le_mul_right _ hc
 refine ⟨g, cap, cur.toList, rfl, hb, by rw [Array.toArray_toList]; exact hh, by rw [Array.length_toList, hs]; omega, hc, fun ds hl w' hbk => ⟨?_, Or.inr ⟨g, cap, _, rfl, hb, hbk, hc, hm, ?_, ?_⟩⟩⟩
 ·simp only [List.length_append, List.length_take, List.length_drop, h1, hl]; omega
 ·simp only [List.size_toArray, List.length_append, List.length_take, List.length_drop, Array.length_toList, hs, hl]; omega
 show (cur.toList.take (p * sz) ++ ds ++ cur.toList.drop (p * sz + ds.length)).take (n * sz) = _
 have hA : (cur.toList.take (p * sz) ++ ds).length = p * sz + sz := by rw [List.length_append, List.length_take, Array.length_toList, hs, hl]; omega
 rw [List.take_append, hA, List.take_of_length_le (by rw [hA]; omega), ← ht, List.take_take, Nat.min_eq_left (by omega), List.drop_take, hl]
theorem vflat_take {vs : List Vt} (h : ∀ (i : Nat) (x : Vt), vs[i]? = some x → x.Ok) (p : Nat) : (vs.flatMap Vt.C).take (p * 42) = (vs.take p).flatMap Vt.C := by
 rcases Nat.lt_or_ge vs.length p with hp | hp
 ·rw [List.take_of_length_le (by rw [vflat_len vs h]; exact Nat.mul_le_mul_right _ (by omega)), List.take_of_length_le (by omega)]
 have e : vs.flatMap Vt.C = (vs.take p).flatMap Vt.C ++ (vs.drop p).flatMap Vt.C := by rw [← List.flatMap_append, List.take_append_drop]
 have hl : ((vs.take p).flatMap Vt.C).length = p * 42 := by
  rw [vflat_len _ (fun i x hx => by
   rw [List.getElem?_take] at hx
   split at hx
   ·exact h i x hx
   ·cases hx), List.length_take, Nat.min_eq_left hp]
 rw [e, ← hl]; exact List.take_left
theorem vflat_drop {vs : List Vt} (h : ∀ (i : Nat) (x : Vt), vs[i]? = some x → x.Ok) (p : Nat) : (vs.flatMap Vt.C).drop (p * 42) = (vs.drop p).flatMap Vt.C := by
 have h1 := List.take_append_drop (p * 42) (vs.flatMap Vt.C)
 rw [vflat_take h] at h1
 have e : vs.flatMap Vt.C = (vs.take p).flatMap Vt.C ++ (vs.drop p).flatMap Vt.C := by rw [← List.flatMap_append, List.take_append_drop]
 exact List.append_cancel_left (h1.trans e)
theorem vflat_set {vs : List Vt} (h : ∀ (i : Nat) (x : Vt), vs[i]? = some x → x.Ok) (p : Nat) (hp : p < vs.length) (z : Vt) (hz : z.Ok) : (vs.set p z).flatMap Vt.C = (vs.flatMap Vt.C).take (p * 42) ++ z.C ++ (vs.flatMap Vt.C).drop (p * 42 + z.C.length) := by
 rw [Vt.len hz, show p * 42 + 42 = (p + 1) * 42 from (Nat.succ_mul p 42).symm, vflat_take h, vflat_drop h, List.set_eq_take_append_cons_drop, if_pos hp, List.flatMap_append, List.flatMap_cons, List.append_assoc]
theorem idF_set {vs : List Vt} {p : Nat} {z : Vt} (hp : p < vs.length) (h : idF vs p = idn z.id) (i : Nat) : idF (vs.set p z) i = idF vs i := by
 by_cases e : p = i
 ·subst e
  rw [h]; unfold idF
  rw [List.getD_eq_getElem?_getD, List.getElem?_set_self hp]; rfl
 unfold idF
 rw [List.getD_eq_getElem?_getD, List.getElem?_set_ne e, List.getD_eq_getElem?_getD]
theorem VRow.oks {w : World} {B : Nat} {v : Value} {xs : List Vt} (h : VRow w B v xs) : ∀ (i : Nat) (x : Vt), xs[i]? = some x → x.Ok := fun i x hx => (h.ins i x hx).ok
theorem VRow.mem {w : World} {B : Nat} {v : Value} {xs : List Vt} (h : VRow w B v xs) {x : Vt} (hx : x ∈ xs) : TVN w x := by
 obtain ⟨i, hi, e⟩ := List.getElem_of_mem hx
 exact h.ins i x (by rw [List.getElem?_eq_getElem hi, e])
theorem TVN.tc {w w' : World} {D gb : Nat} {r : Option Nat} {x : Vt} {rc : Array Value} (h : TVN w x) (k : Tc D r w w') (hD : Bk w D 174 rc) (hr : r = none ∨ (r = some gb ∧ ∃ cs, Bk w gb 78 cs)) : TVN w' x := by
 refine ⟨h.ok, ⟨⟨h.sec.1.cap, h.sec.1.nil, fun h0 => ?_⟩, fun a e => ⟨Nat.zero_le _, (h.sec.2 a e).2.elim fun cs hc => ⟨cs, ?_⟩⟩⟩, h.len⟩
 ·obtain ⟨a, o, e, hB, hc⟩ := h.sec.1.read h0
  obtain ⟨_, cs, hb⟩ := h.sec.2 _ e
  refine ⟨a, o, e, Nat.lt_of_lt_of_le hB k.size, fun i hi => ?_⟩
  rw [← hc i hi]
  have h2 : Bk w' a 5 cs := k.bk hb (fun e => by subst e; unfold Bk at hb hD; rw [hb] at hD; cases hD) (by
   rcases hr with rfl | ⟨rfl, cs2, hb2⟩
   ·intro e; cases e
   ·intro e; cases e; unfold Bk at hb hb2; rw [hb] at hb2; cases hb2)
  unfold Bk at hb h2
  simp only [World.cell?, h2, hb]
 exact k.bk hc (fun e => by subst e; unfold Bk at hc hD; rw [hc] at hD; cases hD) (by
  rcases hr with rfl | ⟨rfl, cs2, hb2⟩
  ·intro e; cases e
  ·intro e; cases e; unfold Bk at hc hb2; rw [hc] at hb2; cases hb2)
theorem VRow.blk {w : World} {B : Nat} {v : Value} {xs : List Vt} (h : VRow w B v xs) : v.ownBlock = none ∨ ∃ gb, v.ownBlock = some gb ∧ B ≤ gb ∧ gb < w.heap.size ∧ ∃ cs, Bk w gb 78 cs := by
 obtain ⟨_, ⟨rfl, h0⟩ | ⟨g, cap, cur, rfl, hb, hh, _⟩⟩ := h.row
 ·exact Or.inl rfl
 exact Or.inr ⟨g, rfl, hb, (show Bk w g 78 cur from hh).lt, cur, hh⟩
theorem ct_id {z x : Vt} (h : z.ct = x.ct) : z.id = x.id := congrArg Vc.id h
theorem TB.put {w w' : World} {D gb cap : Nat} {vs : List Vt} {C : List Value} {p : Nat} {z x : Vt} (hn : vs.length ≤ 4) (h : TB w D (.slice (some ⟨gb, 0, none⟩) vs.length cap) vs) (hp : p < vs.length) (hf : idF vs p = idn x.id) (hz : z.ct = x.ct) (hzn : TVN w z) (hgb : D + 1 ≤ gb) (hb : Bk w gb 78 C.toArray)
  (hset : ∀ ds : List Value, ds.length = 42 → ∀ w', Bk w' gb 78 (C.take (p * 42) ++ ds ++ C.drop (p * 42 + ds.length)).toArray → w'.ownsRow (D + 1) 78 42 (.slice (some ⟨gb, 0, none⟩) vs.length cap) vs.length ((vs.flatMap Vt.C).take (p * 42) ++ ds ++ (vs.flatMap Vt.C).drop (p * 42 + ds.length)))
  (hd : Bk w' gb 78 (C.take (p * 42) ++ z.C ++ C.drop (p * 42 + z.C.length)).toArray) (ho : Only gb w w') : TB w' D (.slice (some ⟨gb, 0, none⟩) vs.length cap) (vs.set p z) := by
 have hk : Kt [78] 0 w w' := Kt.md ho.md (Nat.zero_le _) hb (List.mem_singleton.2 rfl)
 refine ⟨ho.bk h.blk (by omega), ⟨?_, fun i y hy => ?_⟩, by rw [List.length_set]; exact hn, fun i j hij hj => ?_⟩
 ·rw [vflat_set h.row.oks p hp z hzn.ok, List.length_set]
  exact hset z.C (Vt.len hzn.ok) w' hd
 ·rcases List.mem_or_eq_of_mem_set (List.mem_of_getElem? hy) with hm | rfl
  ·exact (h.row.mem hm).kt hk (by decide)
  exact hzn.kt hk (by decide)
 have hf' : idF vs p = idn z.id := by rw [hf, ct_id hz]
 rw [List.length_set] at hj
 rw [idF_set hp hf', idF_set hp hf']
 exact h.srt i j hij hj
end Go.Proofs.Ytopamplmpfndlaa
namespace Go.Proofs.Ytopamplmpfndlaa.Cl
open Go.RowKit
theorem res_q3 {fn : Func} {a b c : Tmp} (h : fn.results = #[.tmp b, .cell a 47, .tmp c]) (tmps : Array Value) (w : World) (g : Nat) (ha : tmps.getD a undef = .pointer (some ⟨g, 0, none⟩)) (x : Qt) (hB : QB w g x) :
  (results fn tmps).run Try.prog w = .ok (.tuple #[tmps.getD b undef, x.V, tmps.getD c undef]) w := by
 obtain ⟨dd, hd⟩ : ∃ d, Try.prog.underlying 47 = some d ∧ d.isRow = true := ⟨_, Try.underlying47, rfl⟩
 have ha' : tmps[a]?.getD undef = .pointer (some ⟨g, 0, none⟩) := by simpa using ha
 simp [results, h, ha', asAddr, run_loadVar_mid w g 0 47 x.C dd hB.2.range hd.1 hd.2 (by rw [Try.sizeQt, Qt.len hB.1]), Sem.run_bind]
 rfl
def makeF (n num : Int) (k : List UInt8) (now : Int) (W : Wc) : List UInt8 × Qc × Int :=
 if now < 0 ∨ 8 ≤ now then ([], zeroQt.ct, 1)
 else if (reqF n num k W).2 = 0 then (Sm.closeL k (num * 4 + n) (Sm.by8 now) (reqB (reqF n num k W).1), (reqF n num k W).1, 0)
 else ([], (reqF n num k W).1, (reqF n num k W).2)
def MkTup (R : List UInt8 × Qc × Int) (e : Ending) (w' : World) : Prop := ∃ (r : Pt) (y : Qt), e = .returned (.tuple #[r.V, y.V, .int .i64 R.2.2]) ∧ r.l = R.1 ∧ PN w' 0 r ∧ (y.Ok ∧ PN w' 0 y.sec) ∧ y.ct = R.2.1
def MakePost (B C : Nat) (n : Int) (k : List UInt8) (rv : Value) (got : List Bool) (R : List UInt8 × Qc × Int) (w : World) (e : Ending) (w' : World) : Prop :=
 MkTup R e w' ∧ (R.2.2 ≠ 0 → Ex w w') ∧ (R.2.2 = 0 → ∃ rv', CI w' B C n k rv' (got ++ [false]) ∧ Tc C rv.ownBlock w w' ∧ Lies w rv rv')
section
variable {o : Oper} {a : Act} {w : World} {K : Act → World → Prop} {Q : Exit → Act → World → Prop}
theorem ld_ckey (x : Operand) {B C : Nat} {n : Int} {k : List UInt8} {rv : Value} {got : List Bool} (h : CI w B C n k rv got) (ho : o.op = .load 36 x) (ha : a.eval x = .pointer (some ⟨C, 1, none⟩)) (hk : K (a.put o.dst (digV k)) w) : o.wp Try.prog a w K Q := by
 obtain ⟨dd, hd⟩ : ∃ d, Try.prog.underlying 36 = some d ∧ d.isRow = true := ⟨_, Try.underlying36, rfl⟩
 exact wp_ldp (C := clC n k rv) (Lib.byteCells k) x C 1 dd ho ha h.blk (by unfold clC; simp) hd.1 hd.2 (by rw [Try.sizeDig, byteCells_len, h.kN]) hk
end
theorem reqF_z {n num : Int} {k : List UInt8} {W : Wc} (h : (reqF n num k W).2 ≠ 0) : (reqF n num k W).1 = zeroQt.ct := by
 have key : ∀ q : Qc, (if q.right = true then (q, (0 : Int)) else (zeroQt.ct, 1)).2 ≠ 0 → (if q.right = true then (q, (0 : Int)) else (zeroQt.ct, 1)).1 = zeroQt.ct := by
  intro q
  split
  ·intro h; exact absurd rfl h
  ·intro _; rfl
 revert h
 unfold reqF
 split
 ·intro _; rfl
 exact key _
theorem reqF_right {n num : Int} {k : List UInt8} {W : Wc} (h : (reqF n num k W).2 = 0) : (reqF n num k W).1.right = true ∧ (reqF n num k W).1.num = num ∧ (reqF n num k W).1.client = n := by
 have key : ∀ q : Qc, q.num = num → q.client = n → (if q.right = true then (q, (0 : Int)) else (zeroQt.ct, 1)).2 = 0 → (if q.right = true then (q, (0 : Int)) else (zeroQt.ct, 1)).1.right = true ∧ (if q.right = true then (q, (0 : Int)) else (zeroQt.ct, 1)).1.num = num ∧ (if q.right = true then (q, (0 : Int)) else (zeroQt.ct, 1)).1.client = n := by
  intro q h1 h2
  split
  ·rename_i h; intro _; exact ⟨h, h1, h2⟩
  ·intro h; cases h
 revert h
 unfold reqF
 split
 ·intro h; cases h
 exact key _ rfl rfl
def LK (ic it ix io : Nat) (base : World) (L : List UInt8) (l : Array Bool) (f : Nat → Value) (W : World) : Prop :=
 Ex base W ∧ (l.getD ic false = true → ∃ v : Value, f ic = .tuple #[v, .int .i64 0] ∧ ownU W base.heap.size v L ∧ (l.getD it false = true → f it = f ic) ∧ (l.getD ix false = true → f ix = v) ∧ (l.getD io false = true → f io = v))
section
variable {ic it ix io : Nat} {base : World} {L : List UInt8} {l : Array Bool} {f : Nat → Value} {W W' : World}
theorem LK.start (h0 : ∀ i, l.getD i false = false) (x : Ex base W) : LK ic it ix io base L l f W := ⟨x, fun e => absurd e (by rw [h0]; decide)⟩
theorem LK.step (h : LK ic it ix io base L l f W) {i : Nat} {v : Value} (hc : i ≠ ic) (ht : i ≠ it) (hx : i ≠ ix) (ho : i ≠ io) (x : Ex W W') : LK ic it ix io base L (l.setIfInBounds i true) (upd f i v) W' := by
 unfold LK
 rw [gset hc, gset ht, gset hx, gset ho, upd_ne _ _ (Ne.symm hc), upd_ne _ _ (Ne.symm ht), upd_ne _ _ (Ne.symm hx), upd_ne _ _ (Ne.symm ho)]
 refine ⟨h.1.trans x, fun e => ?_⟩
 obtain ⟨v, a, b, d⟩ := h.2 e
 exact ⟨v, a, x.row b, d⟩
theorem LK.call (h : LK ic it ix io base L l f W) (ht : ic ≠ it) (hx : ic ≠ ix) (ho : ic ≠ io) (nt : l.getD it false = false) (nx : l.getD ix false = false) (no : l.getD io false = false) (x : Ex W W') {v : Value} (hv : ownU W' base.heap.size v L) :
  LK ic it ix io base L (l.setIfInBounds ic true) (upd f ic (.tuple #[v, .int .i64 0])) W' := by
 unfold LK
 rw [gset ht, gset hx, gset ho, upd_same, nt, nx, no]
 exact ⟨h.1.trans x, fun _ => ⟨v, rfl, hv, fun e => (by cases e), fun e => (by cases e), fun e => (by cases e)⟩⟩
theorem LK.tup (h : LK ic it ix io base L l f W) (hc : it ≠ ic) (hx : it ≠ ix) (ho : it ≠ io) : LK ic it ix io base L (l.setIfInBounds it true) (upd f it (f ic)) W := by
 unfold LK
 rw [gset hc, gset hx, gset ho, upd_same, upd_ne _ _ (Ne.symm hc), upd_ne _ _ (Ne.symm hx), upd_ne _ _ (Ne.symm ho)]
 refine ⟨h.1, fun e => ?_⟩
 obtain ⟨v, a, b, d, k⟩ := h.2 e
 exact ⟨v, a, b, fun _ => rfl, k⟩
theorem LK.ext (h : LK ic it ix io base L l f W) (hc : ix ≠ ic) (ht : ix ≠ it) (ho : ix ≠ io) (lt : l.getD it false = true) {z : Value} (hz : f it = .tuple #[z, .int .i64 0]) : LK ic it ix io base L (l.setIfInBounds ix true) (upd f ix z) W := by
 unfold LK
 rw [gset hc, gset ht, gset ho, upd_same, upd_ne _ _ (Ne.symm hc), upd_ne _ _ (Ne.symm ht), upd_ne _ _ (Ne.symm ho)]
 refine ⟨h.1, fun e => ?_⟩
 obtain ⟨v, a, b, d, k, m⟩ := h.2 e
 refine ⟨v, a, b, d, fun _ => ?_, m⟩
 have q := d lt
 rw [a, hz] at q
 injection q with q
 have q := congrArg (fun (r : Array Value) => r[0]?) q
 simpa using q
theorem LK.put (h : LK ic it ix io base L l f W) (hc : io ≠ ic) (ht : io ≠ it) (hx : io ≠ ix) (lx : l.getD ix false = true) : LK ic it ix io base L (l.setIfInBounds io true) (upd f io (f ix)) W := by
 unfold LK
 rw [gset hc, gset ht, gset hx, upd_same, upd_ne _ _ (Ne.symm hc), upd_ne _ _ (Ne.symm ht), upd_ne _ _ (Ne.symm hx)]
 refine ⟨h.1, fun e => ?_⟩
 obtain ⟨v, a, b, d, k, m⟩ := h.2 e
 exact ⟨v, a, b, d, k, fun _ => k lx⟩
end
theorem reqB_len {y : Qt} (h : y.Ok) (hr : y.ct.right = true) : (reqB y.ct).length ≤ 8176 := by
 have s := Qc.sec_le hr
 have e1 : y.ct.id.length = 4 := h.idN
 have e2 : y.ct.pin.length = 16 := h.pinN
 have e3 : y.ct.own.length = 16 := h.ownN
 have e4 : y.ct.key.length = 16 := h.keyN
 unfold reqB
 simp only [List.length_append, List.length_cons, List.length_nil, e1, e2, e3, e4]
 have e5 : (Sm.numL y.ct.num).length = 8 := by simp [Sm.numL]
 omega
theorem wp_bfalse {o : Oper} {a : Act} {w : World} {K : Act → World → Prop} {Q : Exit → Act → World → Prop} (s x : Operand) (hop : o.op = .call { callee := .builtin .append, args := #[s, x], argTypes := #[97, 97] }) (B : Nat) (v : Value) (got : List Bool) (hs : a.eval s = v) (hown : ownB w B v got) (hB : B ≤ w.heap.size)
  (g : Nat) (hx : a.eval x = .slice (some ⟨g, 0, none⟩) 1 1) (hg : Bk w g 4 #[.bool false]) (hN : got.length < 1000) (h : ∀ v' w', ownB w' B v' (got ++ [false]) → w.grownBy w' v.ownBlock → Lies w v v' → K (a.put o.dst v') w') : o.wp Try.prog a w K Q := by
 refine wp_rtell s x 97 4 (.bool false) 1 1 hop (by kernel_rfl) (by kernel_rfl) rfl (by decide) B got.length v _ hs hown hB ⟨g, 0, none⟩ 1 1 [.bool false] hx rfl (fun j u hj => ?_) (by simp; rfl) (by decide) (by omega) (by omega) (fun v' w' r1 r2 r3 => h v' w' ?_ r2 r3)
 ·match j, hj with
  | 0, hj =>
   obtain rfl : Value.bool false = u := by simpa using hj
   show w.cell? ⟨g, 0, none⟩ = _
   rw [hg.cell]; rfl
  | j + 1, hj => simp at hj
 ·unfold ownB
  rw [List.length_append, List.map_append]
  exact r1
theorem st_cgot {o : Oper} {a : Act} {w : World} {K : Act → World → Prop} {Q : Exit → Act → World → Prop} (x y : Operand) (C : Nat) (n : Int) (k : List UInt8) (rv v : Value) (hk16 : k.length = 16) (ho : o.op = .store 97 x y) (ha : a.eval x = .pointer (some ⟨C, 17, none⟩)) (hy : a.eval y = v) (h1 : v.oneCell' = true) (h : Bk w C 106 (clC n k rv).toArray)
  (hk : ∀ w', Bk w' C 106 (clC n k v).toArray → Only C w w' → K (a.put o.dst undef) w') : o.wp Try.prog a w K Q := by
 refine wp_st1 x y C 17 v ho ha hy h (by unfold clC; simp [byteCells_len, hk16]) (by kernel_rfl) h1 (fun w' b1 b2 => hk w' ?_ b2)
 have e : (clC n k rv).set 17 v = clC n k v := by
  obtain ⟨_, _, _, _, _, _, _, _, _, _, _, b1, b2, _, _, _, rfl⟩ := len16 hk16
  rfl
 rw [← e]; exact b1
theorem ownB_only {w w' : World} {B C : Nat} {v : Value} {got : List Bool} {t : TypeId} {cs : Array Value} (h : ownB w B v got) (hb : Bk w C t cs) (ht : t ≠ 4) (k : Only C w w') : ownB w' B v got := by
 obtain ⟨h1, h2 | ⟨g, cap, cur, e, hB, hh, r⟩⟩ := h
 ·exact ⟨h1, .inl h2⟩
 have hne : g ≠ C := by
  rintro rfl
  exact ht (Bk.ty hb hh)
 exact ⟨h1, .inr ⟨g, cap, cur, e, hB, (k.other g hne).trans hh, r⟩⟩
theorem ownB_one {w : World} {B : Nat} {v : Value} {got : List Bool} (h : ownB w B v got) : v.oneCell' = true := by
 obtain ⟨ad, cap, rfl, _⟩ := ownB_form h
 rfl
theorem ownB_ne {w : World} {B C : Nat} {v : Value} {got : List Bool} {t : TypeId} {cs : Array Value} (h : ownB w B v got) (hb : Bk w C t cs) (ht : t ≠ 4) : some C ≠ v.ownBlock := by
 obtain ⟨h1, h2 | ⟨g, cap, cur, rfl, hB, hh, r⟩⟩ := h
 ·rw [h2.1]; intro e; cases e
 intro e
 obtain rfl : C = g := by simpa [Value.ownBlock] using e
 exact ht (Bk.ty hb hh)
theorem PN.tc9 {w w' : World} {B0 B C : Nat} {rv : Value} {got : List Bool} {p : Pt} {cs : Array Value} (h : PN w B0 p) (k : Tc C rv.ownBlock w w') (hD : Bk w C 106 cs) (ho : ownB w B rv got) : PN w' B0 p := by
 have hb : ∀ a, p.ad = some a → a.block < w.heap.size ∧ w'.heap[a.block]? = w.heap[a.block]? := fun a e => by
  obtain ⟨_, cu, hu⟩ := h.2 a e
  refine ⟨hu.lt, k.block _ hu.lt ?_ (ownB_ne ho hu (by decide))⟩
  intro e2
  rw [e2] at hu
  exact absurd (Bk.ty hu hD) (by decide)
 refine ⟨⟨h.1.cap, h.1.nil, fun h0 => ?_⟩, fun a e => ⟨(h.2 a e).1, (h.2 a e).2.elim fun cu hc => ⟨cu, (hb a e).2.trans hc⟩⟩⟩
 obtain ⟨a, o, e, hB, hc⟩ := h.1.read h0
 refine ⟨a, o, e, Nat.lt_of_lt_of_le hB k.size, fun i hi => ?_⟩
 rw [← hc i hi]
 simp only [World.cell?, (hb _ e).2]
theorem QB.tc9 {w w' : World} {g B C : Nat} {rv : Value} {got : List Bool} {y : Qt} {cs : Array Value} (h : QB w g y) (k : Tc C rv.ownBlock w w') (hD : Bk w C 106 cs) (ho : ownB w B rv got) : QB w' g y := by
 refine ⟨h.1, k.bk h.2 ?_ (ownB_ne ho h.2 (by decide))⟩
 rintro rfl
 exact absurd (Bk.ty h.2 hD) (by decide)
theorem CI.only9 {w w' : World} {B C i : Nat} {n : Int} {k : List UInt8} {rv : Value} {got : List Bool} {t : TypeId} {cs : Array Value} (h : CI w B C n k rv got) (o : Only i w w') (hb : Bk w i t cs) (h1 : t ≠ 106) (h2 : t ≠ 4) : CI w' B C n k rv got :=
 ⟨o.bk h.blk (by rintro rfl; exact h1 (Bk.ty hb h.blk)), ownB_only h.row hb h2 o, h.lo, h.kN, h.n0, h.n1, h.few⟩
theorem Tc.only9 {D i : Nat} {r : Option Nat} {w a b : World} (h : Tc D r w a) (o : Only i a b) (hi : w.heap.size ≤ i) : Tc D r w b := by
 have hb := o.below 0 (Nat.zero_le _) a (Below.refl 0 a)
 exact ⟨hb.os.trans h.os, hb.tape.trans h.tape, hb.output.trans h.output, by rw [o.size]; exact h.size, fun k hk h1 h2 => (o.other k (by omega)).trans (h.block k hk h1 h2)⟩
end Go.Proofs.Ytopamplmpfndlaa.Cl
