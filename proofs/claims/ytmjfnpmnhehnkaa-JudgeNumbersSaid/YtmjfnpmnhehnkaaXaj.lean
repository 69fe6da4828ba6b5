/- FlX, Ta -/
import Derived.Test.YtmjfnpmnhehnkaaXai
import Derived.Lib.BytesEntry
namespace Go.Proofs.Ytmjfnpmnhehnkaa
open Go.RowKit
structure Sx where
 holds : Value → World → Prop
 stab : ∀ v w w', holds v w → Ex w w' → holds v w'
 fixed : Bool
 fix : fixed = true → ∀ v w w', holds v w → holds v w'
def Sx.is (x : Value) : Sx := ⟨fun v _ => v = x, fun _ _ _ h _ => h, true, fun _ _ _ _ h => h⟩
def Sx.any : Sx := ⟨fun _ _ => True, fun _ _ _ _ _ => trivial, true, fun _ _ _ _ _ => trivial⟩
def Sx.of (H : Value → World → Prop) (st : ∀ v w w', H v w → Ex w w' → H v w') : Sx := ⟨H, st, false, fun h => by cases h⟩
structure JE (base : World) (T : List Sx) (cons : List (Option Nat)) (prs : List (Nat × Nat)) (c1 c2 : Nat) (Fin : World → Prop) (listed : Array Bool) (f : Nat → Value) (w : World) : Prop where
 vals : ∀ i, listed.getD i false = true → (∀ c, cons.getD i none = some c → listed.getD c false = false) → (T.getD i .any).holds (f i) w
 pre : listed.getD c1 false = false → Ex base w
 fin : listed.getD c2 false = true → Fin w
 ord : ∀ x ∈ prs, listed.getD x.1 false = true → listed.getD x.2 false = true
section
variable {base : World} {T : List Sx} {cons : List (Option Nat)} {prs : List (Nat × Nat)} {c1 c2 : Nat} {Fin : World → Prop}
theorem JE.start (listed : Array Bool) (f : Nat → Value) (h0 : ∀ i, listed.getD i false = false) : JE base T cons prs c1 c2 Fin listed f base.drew :=
 ⟨fun i hi => absurd hi (by rw [h0 i]; decide), fun _ => (Below.refl base.heap.size base).drew, fun h => absurd h (by rw [h0 c2]; decide), fun x _ hx => absurd hx (by rw [h0 x.1]; decide)⟩
theorem JE.plain {listed : Array Bool} {f : Nat → Value} {w w' : World} (h : JE base T cons prs c1 c2 Fin listed f w) {i : Nat} (hi : i < listed.size) {v : Value} (hF : ∀ w w', Fin w → Ex w w' → Fin w') (h2 : i ≠ c2) (k : Ex w w') (hv : (T.getD i .any).holds v w') (ho : ∀ x ∈ prs, x.1 = i → listed.getD x.2 false = true) :
  JE base T cons prs c1 c2 Fin (listed.setIfInBounds i true) (upd f i v) w' := by
 have mono : ∀ c, listed.getD c false = true → (listed.setIfInBounds i true).getD c false = true := fun c hc => by
  by_cases e : i = c
  ·subst e; exact set_new hi
  ·rw [gset e false]; exact hc
 refine ⟨fun j hj hcj => ?_, fun hp => Ex.trans (h.pre (set_falseR hp)) k, fun hl => ?_, fun x hx h1 => ?_⟩
 ·by_cases e : j = i
  ·subst e; rw [upd_same]; exact hv
  rw [upd_ne _ _ e]
  have hj' : listed.getD j false = true := by
   rcases listed_set hj with rfl | hj
   ·exact absurd rfl e
   ·exact hj
  exact (T.getD j .any).stab _ _ _ (h.vals j hj' (fun c hcc => set_falseR (hcj c hcc))) k
 ·rw [gset h2 false] at hl
  exact hF _ _ (h.fin hl) k
 rcases listed_set h1 with e | h1
 ·exact mono _ (ho x hx e)
 exact mono _ (h.ord x hx h1)
theorem JE.mod {listed : Array Bool} {f : Nat → Value} {w w' : World} (h : JE base T cons prs c1 c2 Fin listed f w) {i : Nat} (hi : i < listed.size) {v : Value} {fx : List Bool} (hfx : T.map Sx.fixed = fx) (hv : (T.getD i .any).holds v w')
  (hc : ∀ j, j ≠ i → fx.getD j true = false → listed.getD j false = true → ∃ c, cons.getD j none = some c ∧ (c = i ∨ listed.getD c false = true))
  (hp : c1 = i ∨ listed.getD c1 false = true) (hf : (listed.setIfInBounds i true).getD c2 false = true → Fin w') (ho : ∀ x ∈ prs, x.1 = i → listed.getD x.2 false = true) :
  JE base T cons prs c1 c2 Fin (listed.setIfInBounds i true) (upd f i v) w' := by
 have new := set_new hi
 have mono : ∀ c, listed.getD c false = true → (listed.setIfInBounds i true).getD c false = true := fun c hc => by
  by_cases e : i = c
  ·subst e; exact new
  ·rw [gset e false]; exact hc
 refine ⟨fun j hj hcj => ?_, fun hp' => ?_, hf, fun x hx h1 => ?_⟩
 ·by_cases e : j = i
  ·subst e; rw [upd_same]; exact hv
  rw [upd_ne _ _ e]
  have hj' : listed.getD j false = true := by
   rcases listed_set hj with rfl | hj
   ·exact absurd rfl e
   ·exact hj
  have hold := h.vals j hj' (fun c hcc => set_falseR (hcj c hcc))
  cases hx : (T.getD j .any).fixed with
  | true => exact (T.getD j .any).fix hx _ _ _ hold
  | false =>
   have ht : fx.getD j true = false := by
    rw [← hfx, List.getD_eq_getElem?_getD, List.getElem?_map]
    rw [List.getD_eq_getElem?_getD] at hx
    cases hT : T[j]? with
    | none => rw [hT] at hx; exact absurd hx (by decide)
    | some s => rw [hT] at hx; exact hx
   obtain ⟨c, hcc, hci⟩ := hc j e ht hj'
   have := hcj c hcc
   rcases hci with rfl | hci
   ·rw [new] at this; cases this
   ·rw [mono c hci] at this; cases this
 ·rcases hp with rfl | hp
  ·rw [new] at hp'; cases hp'
  rw [mono _ hp] at hp'; cases hp'
 rcases listed_set h1 with e | h1
 ·exact mono _ (ho x hx e)
 exact mono _ (h.ord x hx h1)
end
end Go.Proofs.Ytmjfnpmnhehnkaa
namespace Go.Proofs.Ytmjfnpmnhehnkaa
open Go.RowKit
/-- an ID as a number -/
def idn : List UInt8 → Nat
 | [a, b, c, d] => a.toNat * 16777216 + b.toNat * 65536 + c.toNat * 256 + d.toNat
 | _ => 0
def cmpN (a b : Nat) : Int := if a < b then -1 else if b < a then 1 else 0
theorem cmp_step (a p A B M : Nat) (hA : A < M) (hB : B < M) : (if a < p then -1 else if p < a then 1 else cmpN A B) = cmpN (a * M + A) (p * M + B) := by
 rcases Nat.lt_trichotomy a p with h | h | h
 ·have h1 : (a + 1) * M ≤ p * M := Nat.mul_le_mul_right _ h
  rw [Nat.add_mul, Nat.one_mul] at h1
  unfold cmpN
  rw [if_pos h, if_pos (by omega)]
 ·subst h
  unfold cmpN
  rw [if_neg (by omega), if_neg (by omega)]
  by_cases h1 : A < B
  ·rw [if_pos h1, if_pos (by omega)]
  rw [if_neg h1, if_neg (by omega : ¬ a * M + A < a * M + B)]
  by_cases h2 : B < A
  ·rw [if_pos h2, if_pos (by omega)]
  rw [if_neg h2, if_neg (by omega)]
 have h1 : (p + 1) * M ≤ a * M := Nat.mul_le_mul_right _ h
 rw [Nat.add_mul, Nat.one_mul] at h1
 unfold cmpN
 rw [if_neg (by omega), if_pos h, if_neg (by omega), if_pos (by omega)]
theorem cmp_idn {x y : List UInt8} (hx : x.length = 4) (hy : y.length = 4) : Lib.compareBytes x y = cmpN (idn x) (idn y) := by
 obtain ⟨a, b, c, d, rfl⟩ := len4 hx
 obtain ⟨p, q, r, s, rfl⟩ := len4 hy
 have ha := a.toNat_lt; have hb := b.toNat_lt; have hc := c.toNat_lt; have hd := d.toNat_lt
 have hp := p.toNat_lt; have hq := q.toNat_lt; have hr := r.toNat_lt; have hs := s.toNat_lt
 have e0 : Lib.compareBytes [d] [s] = cmpN d.toNat s.toNat := by
  simp only [Lib.compareBytes, cmpN, UInt8.lt_iff_toNat_lt]
 have e1 := cmp_step c.toNat r.toNat d.toNat s.toNat 256 hd hs
 have e2 := cmp_step b.toNat q.toNat (c.toNat * 256 + d.toNat) (r.toNat * 256 + s.toNat) 65536 (by omega) (by omega)
 have e3 := cmp_step a.toNat p.toNat (b.toNat * 65536 + (c.toNat * 256 + d.toNat)) (q.toNat * 65536 + (r.toNat * 256 + s.toNat)) 16777216 (by omega) (by omega)
 have u : ∀ (a p : UInt8) (A B : List UInt8), Lib.compareBytes (a :: A) (p :: B) = if a.toNat < p.toNat then -1 else if p.toNat < a.toNat then 1 else Lib.compareBytes A B := fun a p A B => by
  simp only [Lib.compareBytes, UInt8.lt_iff_toNat_lt]
 rw [u, u, u, e0, e1, e2, e3]
 unfold idn
 simp only [Nat.add_assoc]
theorem idn_inj {x y : List UInt8} (hx : x.length = 4) (hy : y.length = 4) (h : idn x = idn y) : x = y := by
 obtain ⟨a, b, c, d, rfl⟩ := len4 hx
 obtain ⟨p, q, r, s, rfl⟩ := len4 hy
 have ha := a.toNat_lt; have hb := b.toNat_lt; have hc := c.toNat_lt; have hd := d.toNat_lt
 have hp := p.toNat_lt; have hq := q.toNat_lt; have hr := r.toNat_lt; have hs := s.toNat_lt
 simp only [idn] at h
 have e1 : a = p := UInt8.toNat_inj.1 (by omega)
 have e2 : b = q := UInt8.toNat_inj.1 (by omega)
 have e3 : c = r := UInt8.toNat_inj.1 (by omega)
 have e4 : d = s := UInt8.toNat_inj.1 (by omega)
 rw [e1, e2, e3, e4]
theorem run_bytesOf (w : World) (p : Pt) {B : Nat} (h : p.In w B) : (Extern.Bytes.bytesOf p.V).run Try.prog w = .ok ⟨p.l.toArray⟩ w := by
 unfold Pt.V
 cases ha : p.ad with
 | none =>
  have := h.nil ha
  have hl : p.l = [] := List.eq_nil_of_length_eq_zero (by have := h.cap; omega)
  rw [hl]; rfl
 | some A =>
  have hb := Lib.run_loadBytesX (P := Try.prog) w (p.l.map fun b => (b.toNat : Int)) A .empty (fun j x hj => by
   rw [List.getElem?_map] at hj
   have h0 : 0 < p.l.length := by
    cases hq : p.l[j]? with
    | none => rw [hq] at hj; cases hj
    | some _ => have := (List.getElem?_eq_some_iff.1 hq).1; omega
   obtain ⟨a, o, e, _, hc⟩ := h.read h0
   rw [ha] at e; cases e
   cases hq : p.l[j]? with
   | none => rw [hq] at hj; cases hj
   | some b =>
    rw [hq] at hj
    cases hj
    have hjl := (List.getElem?_eq_some_iff.1 hq).1
    rw [Addr.add_lit, hc j hjl, List.getD_eq_getElem?_getD, hq]; rfl)
  rw [List.length_map] at hb
  have e : (⟨ByteArray.empty.data ++ (Lib.bytesOf (p.l.map fun b => (b.toNat : Int))).toArray⟩ : ByteArray) = ⟨p.l.toArray⟩ := by
   apply ByteArray.ext
   show (#[] : Array UInt8) ++ (Lib.bytesOf (p.l.map fun b => (b.toNat : Int))).toArray = p.l.toArray
   rw [Array.empty_append]
   congr 1
   unfold Lib.bytesOf
   rw [List.map_map]
   exact map_back p.l
  rw [e] at hb
  exact hb
theorem run_cmp (w : World) (p q : Pt) {B B' : Nat} (hp : p.In w B) (hq : q.In w B') : (Extern.BytealgCompare.compare #[p.V, q.V]).run Try.prog w = .ok (.int .i64 (Lib.compareBytes p.l q.l)) w := by
 change Sem.run Try.prog (do pure (goInt (Extern.BytealgCompare.cmp (← Extern.Bytes.bytesOf p.V) (← Extern.Bytes.bytesOf q.V)))) w = _
 simp only [Sem.run_bind, Sem.run_pure, run_bytesOf w p hp, run_bytesOf w q hq, Result.andThen]
 rw [Lib.cmp_eq]
 rfl
set_option maxRecDepth 100000 in
theorem bcmp_any (p q : Pt) (w : World) {B B' : Nat} (hp : p.In w B) (hq : q.In w B') : Calls Try.prog 134 #[p.V, q.V] w fun e w' => e = .returned (.int .i64 (Lib.compareBytes p.l q.l)) ∧ w = w' := by
 have hr := run_cmp w p q hp hq
 obtain ⟨r, hrr⟩ : ∃ r, r = Lib.compareBytes p.l q.l := ⟨_, rfl⟩
 rw [← hrr] at hr ⊢
 clear hrr hp hq
 unfold Pt.V at *
 generalize p.l.length = n1 at *
 generalize q.l.length = n2 at *
 go_enter Try.func134, Try.ntmps134
 go_wp2
 rw [run_callFunc_extern Try.func145 (by kernel_rfl) (by kernel_rfl) (by kernel_rfl) (e := Extern.BytealgCompare.compare) (by kernel_rfl), hr]
 simp only [Result.andThen]
 rw [Oper.upon_value]
 go_wp2
 go_ret
 exact ⟨rfl, rfl⟩
end Go.Proofs.Ytmjfnpmnhehnkaa
