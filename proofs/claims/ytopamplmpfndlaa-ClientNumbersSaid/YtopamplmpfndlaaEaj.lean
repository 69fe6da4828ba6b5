/- MFlB -/
import Derived.Test.YtopamplmpfndlaaEad
import Derived.Test.YtopamplmpfndlaaEai
import Derived.ArgAppend
set_option maxRecDepth 100000
set_option maxHeartbeats 16000000
namespace Go.Proofs.Ytopamplmpfndlaa.Sm
open Go.RowKit
theorem Pt.In.ext {p : Pt} {w w' : World} (h : p.In w w.heap.size) (k : Ex w w') : p.In w' w'.heap.size := (h.keep k).more k.size
theorem Bk.ext {w w' : World} {g : Nat} {t : TypeId} {cs : Array Value} (h : Bk w g t cs) (k : Ex w w') : Bk w' g t cs := h.under k h.lt
theorem Bk.setCells {g : Nat} {t : TypeId} : ∀ (vs : List Value) (o : Nat) (w : World) (cs : Array Value), Bk w g t cs → ∃ cs', Bk (w.setCells g o vs) g t cs' ∧ cs'.size = cs.size
 | [], _, _, cs, h => ⟨cs, h, rfl⟩
 | v :: r, o, w, cs, h => by
  obtain ⟨c2, h1, h2⟩ := Bk.setCells r (o + 1) _ _ (h.put o v)
  exact ⟨c2, h1, by simpa using h2⟩
theorem rowAll {w : World} {g : Nat} {t : TypeId} {cs ds : Array Value} (h : Bk w g t cs) (hs : ds.size = cs.size) : Bk (w.setCells g 0 ds.toList) g t ds := by
 obtain ⟨c2, h1, h2⟩ := Bk.setCells ds.toList 0 w cs h
 have hr := World.rangeAt_setCells_same w g 0 ds.toList (by rw [Array.length_toList]; exact h.there _ hs.symm)
 have e : c2 = ds := by
  apply Array.ext (by omega)
  intro i a b
  have h3 := hr i ds[i] (by simp)
  rw [Nat.zero_add, h1.cell] at h3
  simpa [a] using h3
 rw [e] at h1; exact h1
theorem own_under {w w' : World} {B : Nat} {v : Value} {l : List UInt8} (h : ownU w B v l) (k : Below w.heap.size w w') : ownU w' B v l := by
 obtain ⟨h1, h2 | ⟨g, cap, cur, h3, h4, h5, r⟩⟩ := h
 ·exact ⟨h1, .inl h2⟩
 refine ⟨h1, .inr ⟨g, cap, cur, h3, h4, ?_, r⟩⟩
 have hg : g < w.heap.size := by
  rcases Nat.lt_or_ge g w.heap.size with hlt | hge
  ·exact hlt
  ·rw [Array.getElem?_eq_none hge] at h5; cases h5
 rw [k.block g hg]; exact h5
inductive As where
 | any
 | is (x : Value)
 | pt (l : List UInt8)
 | full (l : List UInt8)
 | two (l m : List UInt8)
 | blk (base : Nat) (t : TypeId) (cs : Array Value)
def As.holds : As → Value → World → Prop
 | .any, _, _ => True
 | .is x, v, _ => v = x
 | .pt l, v, w => ∃ p : Pt, v = p.V ∧ p.l = l ∧ p.In w w.heap.size
 | .full l, v, w => ∃ p : Pt, v = p.V ∧ p.l = l ∧ p.cap = l.length ∧ p.In w w.heap.size
 | .two l m, v, w => ∃ (g : Nat) (p q : Pt), v = .slice (some ⟨g, 0, none⟩) 2 2 ∧ p.l = l ∧ q.l = m ∧ p.In w w.heap.size ∧ q.In w w.heap.size ∧ Bk w g 23 #[p.V, q.V]
 | .blk base t cs, v, w => ∃ g, v = .pointer (some ⟨g, 0, none⟩) ∧ base ≤ g ∧ Bk w g t cs
theorem As.stable {s : As} {v : Value} {w w' : World} (h : s.holds v w) (k : Ex w w') : s.holds v w' := by
 cases s with
 | any => exact h
 | is x => exact h
 | pt l =>
  obtain ⟨p, h1, h2, h3⟩ := h
  exact ⟨p, h1, h2, h3.ext k⟩
 | full l =>
  obtain ⟨p, h1, h2, h4, h3⟩ := h
  exact ⟨p, h1, h2, h4, h3.ext k⟩
 | two l m =>
  obtain ⟨g, p, q, h1, h2, h3, h4, h5, h6⟩ := h
  exact ⟨g, p, q, h1, h2, h3, h4.ext k, h5.ext k, h6.ext k⟩
 | blk base t cs =>
  obtain ⟨g, h1, h2, h3⟩ := h
  exact ⟨g, h1, h2, h3.ext k⟩
def tabPhi (T : List As) (i : Nat) (v : Value) (w : World) : Prop := (T.getD i .any).holds v w
theorem tabPhi_stable (T : List As) (i : Nat) (v : Value) (w w' : World) (h : tabPhi T i v w) (k : Ex w w') : tabPhi T i v w' := As.stable h k
def numL (n : Int) : List UInt8 := [by8 (n / 72057594037927936), by8 (n / 281474976710656), by8 (n / 1099511627776), by8 (n / 4294967296), by8 (n / 16777216), by8 (n / 65536), by8 (n / 256), by8 n]
theorem numL_C (n : Int) : (Lib.byteCells (numL n)).toArray = numC n := by
 unfold numL numC Lib.byteCells
 simp only [List.map_cons, List.map_nil, by8_int]
def PtPost (l : List UInt8) (w : World) (e : Ending) (w' : World) : Prop := ∃ p : Pt, e = .returned p.V ∧ p.l = l ∧ p.In w' w'.heap.size ∧ Ex w w'
theorem numberP (n : Int) (h0 : 0 ≤ n) (h1 : n < 18446744073709551616) (w : World) : Calls Try.prog 77 #[.int .u64 n] w (PtPost (numL n) w) :=
 (number_any n h0 h1 w).mono fun e w' ⟨he, hb, hx⟩ => by
  subst he
  refine ⟨⟨some ⟨w.heap.size, 0, none⟩, 8, numL n⟩, rfl, rfl, ?_, hx⟩
  exact bk_pt (t := 5) (by rw [numL_C]; exact hb)
theorem rnumberP (n : Int) (h0 : 0 ≤ n) (h1 : n < 18446744073709551616) (w : World) : Calls Try.prog 59 #[.int .u64 n] w (PtPost (numL n) w) :=
 (rnumber_any n h0 h1 w).mono fun e w' ⟨he, hb, hx⟩ => by
  subst he
  refine ⟨⟨some ⟨w.heap.size, 0, none⟩, 8, numL n⟩, rfl, rfl, ?_, hx⟩
  exact bk_pt (t := 5) (by rw [numL_C]; exact hb)
theorem concatP (g : Nat) (p q : Pt) (w : World) (hp : p.In w w.heap.size) (hq : q.In w w.heap.size) (hB : Bk w g 23 #[p.V, q.V]) (hN : p.l.length + q.l.length ≤ 100000000000000) :
  Calls Try.prog 76 #[.slice (some ⟨g, 0, none⟩) 2 2] w (PtPost (p.l ++ q.l) w) := by
 have h := concat_any [p, q] g 2 w hB.lt (by
  intro i r hr
  match i, hr with
  | 0, hr =>
   obtain rfl : p = r := by simpa using hr
   exact ⟨by rw [hB.cell]; rfl, hp⟩
  | 1, hr =>
   obtain rfl : q = r := by simpa using hr
   exact ⟨by rw [hB.cell]; rfl, hq⟩
  | i + 2, hr => simp at hr) (by simp [flatL]; exact hN) (by simp)
 have e : flatL [p, q] 2 = p.l ++ q.l := by simp [flatL]
 refine Calls.mono h fun e' w' h' => ?_
 obtain ⟨v, hv, ho, hb⟩ := h'
 subst hv
 obtain ⟨r, rfl, hr, hin, _⟩ := own_pt ho
 exact ⟨r, rfl, by rw [hr]; exact e, hin, hb⟩
def PtFull (l : List UInt8) (w : World) (e : Ending) (w' : World) : Prop := ∃ p : Pt, e = .returned p.V ∧ p.l = l ∧ p.cap = l.length ∧ p.In w' w'.heap.size ∧ Ex w w'
theorem rnumberF (n : Int) (h0 : 0 ≤ n) (h1 : n < 18446744073709551616) (w : World) : Calls Try.prog 59 #[.int .u64 n] w (PtFull (numL n) w) :=
 (rnumber_any n h0 h1 w).mono fun e w' ⟨he, hb, hx⟩ => by
  subst he
  refine ⟨⟨some ⟨w.heap.size, 0, none⟩, 8, numL n⟩, rfl, rfl, rfl, ?_, hx⟩
  exact bk_pt (t := 5) (by rw [numL_C]; exact hb)
theorem wp_app {o : Oper} {a : Act} {w : World} {K : Act → World → Prop} {Q : Exit → Act → World → Prop} (s x : Operand)
  (hop : o.op = .call { callee := .builtin .append, args := #[s, x], argTypes := #[23, 23] }) (p q : Pt) (hs : a.eval s = p.V) (hx : a.eval x = q.V)
  (hp : p.In w w.heap.size) (hq : q.In w w.heap.size) (hf : p.cap < p.l.length + q.l.length) (hN : p.l.length + q.l.length ≤ 100000000000000)
  (h : ∀ (r : Pt) w', r.l = p.l ++ q.l → r.In w' w'.heap.size → Ex w w' → K (a.put o.dst r.V) w') : o.wp Try.prog a w K Q := by
 obtain ⟨i0, hi0, hz0, hz1, hz2⟩ := info_parts sm_u8
 have hq0 : 0 < q.l.length := by have := hp.cap; omega
 obtain ⟨aq, hqa, hqc⟩ := hq.cells hq0
 have key : ∃ v' w', (Builtin.append_ #[23, 23] o.type #[p.V, q.V]).run Try.prog w = .ok v' w' ∧ w'.ownsRow w.heap.size 5 1 v' (p.l.length + q.l.length) (Lib.byteCells p.l ++ Lib.byteCells q.l) ∧ w.grownBy w' none := by
  unfold Pt.V
  rw [hqa]
  cases hpa : p.ad with
  | none =>
   have hc0 := hp.nil hpa
   have hl0 : p.l = [] := List.eq_nil_of_length_eq_zero (by have := hp.cap; omega)
   obtain ⟨v', w', hr, r1, r2, _⟩ := run_append_own (P := Try.prog) w w.heap.size 23 o.type 5 i0 _ 1 1 Try.underlying23 hi0 hz0 hz1 hz2 rfl (by omega) (.slice none 0 0) 0 [] (World.ownsRow_nil w _ 5 1) aq q.l.length q.cap (Lib.byteCells q.l) (by simp [Lib.byteCells]) hqc (fun u hu => by
    unfold Lib.byteCells at hu; simp at hu; obtain ⟨b, _, rfl⟩ := hu; rfl) (by unfold maxLen; omega) (by omega) (Nat.le_refl _)
   rw [hc0, hl0]
   exact ⟨v', w', hr, r1, r2⟩
  | some ap =>
   refine run_append_arg_grows (P := Try.prog) w 23 o.type 5 i0 _ 1 1 Try.underlying23 hi0 hz0 hz1 hz2 rfl (by omega) ap p.l.length p.cap (Lib.byteCells p.l) (by simp [Lib.byteCells]) ?_ aq q.l.length q.cap (Lib.byteCells q.l) (by simp [Lib.byteCells]) hqc hf (by unfold maxLen; omega) (by omega)
   intro j u hu
   have hj : 0 < p.l.length := by have := (List.getElem?_eq_some_iff.1 hu).1; simp [Lib.byteCells] at this; omega
   obtain ⟨ap', e, hc⟩ := hp.cells hj
   rw [hpa] at e; cases e
   exact hc j u hu
 obtain ⟨v', w', hrun, r1, r2⟩ := key
 have own : ownU w' w.heap.size v' (p.l ++ q.l) := by
  unfold ownU
  rw [List.length_append, byteCells_app]; exact r1
 obtain ⟨r, rfl, hr, hin, _⟩ := own_pt own
 unfold Oper.wp
 simp [execOp, hop, resolve, invoke, builtin, hs, hx, hrun, Result.andThen]
 exact h r w' hr hin ((Below.refl _ _).grown r2 (Nat.le_refl _) (fun k hk => by cases hk))
end Go.Proofs.Ytopamplmpfndlaa.Sm
