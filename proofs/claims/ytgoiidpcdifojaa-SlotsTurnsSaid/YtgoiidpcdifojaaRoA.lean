/- rows of ints: append, slices.Grow, slices.Concat -/
import Derived.Test.YtgoiidpcdifojaaFlA
import Derived.Test.YtgoiidpcdifojaaChecked
import Derived.WalkKit
import Derived.WalkSpells
import Derived.WalkLawsBesides
import Derived.LoopTactic
import Derived.Lib.Hide
import Derived.ProofKit
import Derived.OwnWalk
import Derived.Laws.AppendOwnNone
import Derived.Maps.AppendAt
import Derived.Lib.AppendZeros
import Derived.Deep.MidRow
import Derived.Laws.OwnMore
import Derived.ArgAppend
namespace Go.Proofs.Ytgoiidpcdifojaa
open Go.RowKit
def ic (l : List Int) : List Value := l.map (Value.int .i64)
theorem ic_app (a b : List Int) : ic (a ++ b) = ic a ++ ic b := by simp [ic]
/-- block B is known whole -/
def Bk (w : World) (B : Nat) (t : TypeId) (cs : Array Value) : Prop := w.heap[B]? = some (.cells cs t (0, 0))
theorem Bk.put {w : World} {B : Nat} {t : TypeId} {cs : Array Value} (h : Bk w B t cs) (i : Nat) (v : Value) : Bk (w.setCell ⟨B, i, none⟩ v) B t (cs.setIfInBounds i v) := by
  unfold Bk at *; simp [World.setCell, Array.getElem?_modify, h]
theorem Bk.cell {w : World} {B : Nat} {t : TypeId} {cs : Array Value} (h : Bk w B t cs) (i : Nat) : w.cell? ⟨B, i, none⟩ = cs[i]? := by
  unfold Bk at h; simp [World.cell?, h]
theorem Bk.fr {w : World} {B : Nat} {t : TypeId} {cs : Array Value} (h : Bk w B t cs) (i : Nat) : w.frozen? ⟨B, i, none⟩ = false := by
  unfold Bk at h; simp [World.frozen?, h]
theorem Bk.there {w : World} {g : Nat} {t : TypeId} {cs : Array Value} (h : Bk w g t cs) (o n : Nat) (hn : o + n ≤ cs.size) : w.there g o n := by
  intro j hj
  refine ⟨?_, h.fr _⟩
  rw [h.cell]; simp; omega
theorem Bk.new {w : World} {g : Nat} (hg : g = w.heap.size) (t : TypeId) (cs : Array Value) : Bk (w.alloc (.cells cs t)) g t cs := by subst hg; exact heap_alloc_new w _
theorem Bk.lt {w : World} {g : Nat} {t : TypeId} {cs : Array Value} (h : Bk w g t cs) : g < w.heap.size := by
  rcases Nat.lt_or_ge g w.heap.size with hlt | hge
  · exact hlt
  · unfold Bk at h; rw [Array.getElem?_eq_none hge] at h; cases h
theorem Bk.more {w : World} {g : Nat} {t : TypeId} {cs : Array Value} (h : Bk w g t cs) (o : Obj) : Bk (w.alloc o) g t cs := (Below.heap_alloc w o g h.lt).trans h
theorem Bk.under {w w' : World} {B g : Nat} {t : TypeId} {cs : Array Value} (h : Bk w g t cs) (hb : Below B w w') (hg : g < B) : Bk w' g t cs := (hb.block g hg).trans h
theorem Bk.ext {w w' : World} {g : Nat} {t : TypeId} {cs : Array Value} (h : Bk w g t cs) (k : Ex w w') : Bk w' g t cs := h.under k h.lt
theorem Bk.range {w : World} {g : Nat} {t : TypeId} {ds : List Value} (h : Bk w g t ds.toArray) : w.rangeAt g 0 ds := by
  intro j v hv
  rw [h.cell]
  simpa using hv
theorem Bk.setCells {g : Nat} {t : TypeId} : ∀ (vs : List Value) (o : Nat) (w : World) (cs : Array Value), Bk w g t cs → ∃ cs', Bk (w.setCells g o vs) g t cs' ∧ cs'.size = cs.size
  | [], _, _, cs, h => ⟨cs, h, rfl⟩
  | v :: r, o, w, cs, h => by
    obtain ⟨c2, h1, h2⟩ := Bk.setCells r (o + 1) _ _ (h.put o v)
    exact ⟨c2, h1, by simpa using h2⟩
theorem rowAll {w : World} {g : Nat} {t : TypeId} {cs ds : Array Value} (h : Bk w g t cs) (hs : ds.size = cs.size) : Bk (w.setCells g 0 ds.toList) g t ds := by
  obtain ⟨c2, h1, h2⟩ := Bk.setCells ds.toList 0 w cs h
  have hr := World.rangeAt_setCells_same w g 0 ds.toList (by rw [Array.length_toList]; exact h.there 0 _ (by omega))
  have e : c2 = ds := by
    apply Array.ext (by omega)
    intro i a b
    have h3 := hr i ds[i] (by simp)
    rw [Nat.zero_add, h1.cell] at h3
    simpa [a] using h3
  rw [e] at h1; exact h1
theorem sm_u8 : (Try.prog.info? 3).map (fun i => (i.zero, i.size, i.bytes)) = some (some (.int .i64 0), 1, 8) := by kernel_rfl
theorem sm_append {ops : Array Oper} {rest : List Oper} {o : Oper} {a : Act} {w : World} {Q : Exit → Act → World → Prop} (hgd : o.guard = none) (s x : Operand)
    (ho : o.op = .call { callee := .builtin .append, args := #[s, x], argTypes := #[43, 43] })
    (base : Nat) (v : Value) (n : Nat) (xs : List Value) (hs : a.eval s = v) (hown : w.ownsRow base 3 1 v n xs)
    (Ad : Option Addr) (m c : Nat) (news : List Int) (hx : a.eval x = .slice Ad m c) (hnil : Ad = none → c = 0) (hl : news.length = m)
    (hnews : 0 < m → ∃ ad, Ad = some ad ∧ ∀ j u, (ic news)[j]? = some u → w.cell? (ad.add j) = some u)
    (hbytes : n + m ≤ 1000000) (hbase : base ≤ w.heap.size)
    (h : ∀ v' w', w'.ownsRow base 3 1 v' (n + m) (xs ++ ic news) → w.grownBy w' v.ownBlock → wpList Try.prog ops Q rest (a.put o.dst v') w') : wpList Try.prog ops Q (o :: rest) a w := by
  obtain ⟨i0, hi0, hz0, hz1, hz2⟩ := info_parts sm_u8
  cases Ad with
  | none =>
    obtain rfl : c = 0 := hnil rfl
    have hm : m = 0 := by
      rcases Nat.eq_zero_or_pos m with h0 | h0
      · exact h0
      · obtain ⟨ad, h1, _⟩ := hnews h0; cases h1
    subst hm
    obtain rfl : news = [] := List.eq_nil_of_length_eq_zero hl
    refine wpList_append_own_none hgd s x _ ho base 3 i0 1 Try.underlying43 hi0 v n xs hs hown hx ?_
    exact h v w (by simpa [ic] using hown) (World.grownBy.refl w _)
  | some ad =>
    refine wpList_append_own _ hgd s x _ ho base 3 i0 _ 1 8 Try.underlying43 hi0 hz0 hz1 hz2 rfl (by omega) v n xs hs hown ad m c (ic news) hx (by simp [ic, hl]) ?_ ?_ (by unfold maxLen; omega) (by omega) hbase (fun v' w' h1 h2 _ => h v' w' h1 h2)
    · intro j u hu
      have hj : 0 < m := by
        have := (List.getElem?_eq_some_iff.1 hu).1
        simp [ic, hl] at this; omega
      obtain ⟨ad', e, hc⟩ := hnews hj
      cases e
      exact hc j u hu
    · intro u hu
      unfold ic at hu
      simp at hu
      obtain ⟨b, _, rfl⟩ := hu
      rfl
theorem own_form {w : World} {base : Nat} {e : TypeId} {v : Value} {n : Nat} {xs : List Value} (h : w.ownsRow base e 1 v n xs) (hn : 0 < n) : ∃ g cap, v = .slice (some ⟨g, 0, none⟩) n cap ∧ base ≤ g ∧ g < w.heap.size ∧ n ≤ cap := by
  obtain ⟨_, h | ⟨g, cap, cur, rfl, hb, hh, hc, _⟩⟩ := h
  · omega
  · refine ⟨g, cap, rfl, hb, ?_, hc⟩
    rcases Nat.lt_or_ge g w.heap.size with hlt | hge
    · exact hlt
    · rw [Array.getElem?_eq_none hge] at hh; cases hh
def ownU (w : World) (B : Nat) (v : Value) (l : List Int) : Prop := w.ownsRow B 3 1 v l.length (ic l)
def GrowPost (w : World) (e : Ending) (w' : World) : Prop := ∃ v, e = .returned v ∧ w'.ownsRow w.heap.size 3 1 v 0 [] ∧ Below w.heap.size w w'
set_option maxHeartbeats 2000000 in
set_option maxRecDepth 100000 in
theorem grow_any (n : Nat) (hn : n ≤ 1000000) (w : World) :
    Calls Try.prog 73 #[.slice none 0 0, .int .i64 n] w (GrowPost w) := by
  by_cases h0 : n = 0
  · subst h0
    go_enter Try.func73, Try.ntmps73
    go_wp2_with fail
    go_ret
    exact ⟨_, rfl, World.ownsRow_nil _ _ _ _, Below.refl _ _⟩
  · obtain ⟨i0, hi0, hz0, hz1, hz2⟩ := info_parts sm_u8
    have hr := fun W ty => Lib.run_append_nil_zeros (P := Try.prog) W 43 3 ty 3 i0 (.int .i64 0) .i64 .i64 Try.underlying43 Try.underlying3 hi0 hz0 n (by omega) (by omega) (by omega) (by rw [hz2]; omega)
    have hG := fun W : World => grownCap_ge W n 0 3
    have hGm := fun W : World => grownCap_le_maxLen W n 0 3 (by unfold maxLen; omega)
    have HR := Lib.hid hr
    have n0 : (0 : Int) < (n : Int) := by omega
    clear hr hi0 hz0 hz1 hz2
    have g1 := hG w
    have g2 := hGm w
    obtain ⟨G, hGe⟩ : ∃ G, G = grownCap w n 0 3 := ⟨_, rfl⟩
    have h := fun ty => HR.out w ty
    rw [← hGe] at g1 g2 h
    have HR := Lib.hid h
    clear h hG hGm hGe
    unfold maxLen at g2
    go_enter Try.func73, Try.ntmps73
    go_wp2_with (at_builtin; refine Lib.wpList_append_run _ rfl (.tmp 20) (.tmp 21) 43 3 rfl _ _ rfl rfl _ _ (HR.out _) ?_)
    go_ret
    refine ⟨_, rfl, ?_, ((Below.refl _ _).drew).alloc (by exact Nat.le_refl _) _⟩
    have hs : (Builtin.zeroCells (Value.int .i64 0).cells n ++ Builtin.zeroCells (Value.int .i64 0).cells (G - n)).size = G * 1 := by
      rw [Array.size_append, size_zeroCells, size_zeroCells]
      show n * 1 + (G - n) * 1 = G * 1
      omega
    exact ⟨rfl, .inr ⟨w.heap.size, G, _, rfl, Nat.le_refl _, heap_alloc_new _ _, by omega, g2, hs, by simp⟩⟩
/-- a row of bytes, as it is handed in -/
structure Pt where
  ad : Option Addr
  cap : Nat
  l : List Int
def Pt.V (p : Pt) : Value := .slice p.ad p.l.length p.cap
structure Pt.In (p : Pt) (w : World) (B : Nat) : Prop where
  cap : p.l.length ≤ p.cap
  nil : p.ad = none → p.cap = 0
  read : 0 < p.l.length → ∃ a o, p.ad = some ⟨a, o, none⟩ ∧ a < B ∧ ∀ i, i < p.l.length → w.cell? ⟨a, o + i, none⟩ = some (.int .i64 (p.l.getD i 0))
theorem Pt.In.keep {p : Pt} {w w' : World} {B : Nat} (h : p.In w B) (k : Below B w w') : p.In w' B :=
  ⟨h.cap, h.nil, fun h0 => by
    obtain ⟨a, o, e, hB, hc⟩ := h.read h0
    exact ⟨a, o, e, hB, fun i hi => (k.cell (p := ⟨a, _, none⟩) hB).trans (hc i hi)⟩⟩
theorem Pt.In.more {p : Pt} {w : World} {B B' : Nat} (h : p.In w B) (k : B ≤ B') : p.In w B' :=
  ⟨h.cap, h.nil, fun h0 => by
    obtain ⟨a, o, e, hB, hc⟩ := h.read h0
    exact ⟨a, o, e, by omega, hc⟩⟩
theorem Pt.In.cells {p : Pt} {w : World} {B : Nat} (h : p.In w B) : 0 < p.l.length → ∃ ad, p.ad = some ad ∧ ∀ j u, (ic p.l)[j]? = some u → w.cell? (ad.add j) = some u := by
  intro h0
  obtain ⟨a, o, e, _, hc⟩ := h.read h0
  refine ⟨_, e, fun j u hu => ?_⟩
  have hj : j < p.l.length := by have := (List.getElem?_eq_some_iff.1 hu).1; simpa [ic] using this
  rw [Addr.add_mid, hc j hj, ← hu]
  simp [ic, hj]
def flatL (ps : List Pt) (i : Nat) : List Int := ((ps.take i).map (·.l)).flatten
theorem flatL_succ (ps : List Pt) (i : Nat) (p : Pt) (h : ps[i]? = some p) : flatL ps (i + 1) = flatL ps i ++ p.l := by
  unfold flatL
  have e : ps.take (i + 1) = ps.take i ++ [p] := by
    rw [List.take_add_one, h]; rfl
  rw [e]; simp
theorem flatL_le (ps : List Pt) (N : Nat) (h : (flatL ps ps.length).length ≤ N) (i : Nat) : (flatL ps i).length ≤ N := by
  refine Nat.le_trans ?_ h
  have e : flatL ps ps.length = flatL ps i ++ ((ps.drop i).map (·.l)).flatten := by
    unfold flatL
    rw [List.take_length, ← List.flatten_append, ← List.map_append, List.take_append_drop]
  rw [e]; simp
def ConcatPost (L : List Int) (w : World) (e : Ending) (w' : World) : Prop := ∃ v, e = .returned v ∧ ownU w' w.heap.size v L ∧ Below w.heap.size w w'
set_option maxHeartbeats 4000000 in
set_option maxRecDepth 100000 in
theorem concat_any (ps : List Pt) (P c : Nat) (w : World) (hP : P < w.heap.size) (hp : ∀ i p, ps[i]? = some p → w.cell? ⟨P, i, none⟩ = some p.V ∧ p.In w w.heap.size)
    (hN : (flatL ps ps.length).length ≤ 1000000) (hk : ps.length ≤ 1000) :
    Calls Try.prog 63 #[.slice (some ⟨P, 0, none⟩) ps.length c] w (ConcatPost (flatL ps ps.length) w) := by
  have HP := Lib.hid hp
  have HL := Lib.hid (flatL_le ps _ hN)
  obtain ⟨k, hk'⟩ : ∃ k, k = ps.length := ⟨_, rfl⟩
  rw [← hk'] at hN hk ⊢
  have HK := Lib.hid hk'
  clear hp hk'
  go_enter Try.func63, Try.ntmps63
  go_wp2_with fail
  go_loop [3, 11] (fun t i => ∃ j : Nat, j ≤ k ∧ i = .int .i64 j ∧ t = .int .i64 ((flatL ps j).length : Nat)) (fun _ i => k - (intOf i).toNat)
  case atStart => exact ⟨0, by omega, rfl, rfl⟩
  case round =>
    obtain ⟨j, hj, rfl, rfl⟩ := hrel
    by_cases hlt : j < k
    · obtain ⟨p, hpj⟩ : ∃ p, ps[j]? = some p := ⟨_, List.getElem?_eq_getElem (by rw [← HK.out]; exact hlt)⟩
      have c0 := (HP.out j p hpj).1
      unfold Pt.V at c0
      have hs := flatL_succ ps j p hpj
      have hl := HL.out (j + 1)
      have hs' : (flatL ps (j + 1)).length = (flatL ps j).length + p.l.length := by rw [hs]; simp
      rw [hs'] at hl
      have HS := Lib.hid hs'
      have q0 : (0 : Int) ≤ (j : Int) := by omega
      have q1 : (j : Int) < (k : Int) := by omega
      clear hs hs' hpj
      obtain ⟨t, ht⟩ : ∃ t, t = (flatL ps j).length := ⟨_, rfl⟩
      rw [← ht] at hl ⊢
      have HT := Lib.hid ht
      clear ht
      have q2 : ¬ ((t : Int) + (p.l.length : Int) < 0) := by omega
      go_wp2_with fail
      go_round
      case rel => exact ⟨j + 1, by omega, by go_num, by rw [HS.out, ← HT.out]; go_num⟩
      case measure => simp [intOf]; omega
    · obtain rfl : j = k := by omega
      have hl := HL.out j
      have G := Lib.hid (grow_any (flatL ps j).length hl w)
      go_wp2_with fail
      refine G.out.mono ?_
      rintro e w1 ⟨v1, rfl, own1, b1⟩
      have own1 := Lib.hid own1
      clear G
      go_wp2_with fail
      go_loopw [6, 27] (fun v i wx => ∃ q : Nat, q ≤ j ∧ i = .int .i64 q ∧ Hid (ownU wx w.heap.size v (flatL ps q)) ∧ Below w.heap.size w wx) (fun _ i _ => j - (intOf i).toNat)
      case atStart => exact ⟨0, by omega, rfl, own1, b1⟩
      case round =>
        clear own1 b1
        obtain ⟨q, hq, rfl, own, bw⟩ := hrel
        have hz := bw.size
        by_cases hlt : q < j
        · obtain ⟨p, hpj⟩ : ∃ p, ps[q]? = some p := ⟨_, List.getElem?_eq_getElem (by rw [← HK.out]; exact hlt)⟩
          have hin := (HP.out q p hpj).2.keep bw
          have c0 : wr.cell? ⟨P, q, none⟩ = some p.V := (bw.cell (p := ⟨P, q, none⟩) hP).trans (HP.out q p hpj).1
          unfold Pt.V at c0
          have hs := flatL_succ ps q p hpj
          have hl2 := HL.out (q + 1)
          rw [hs] at hl2
          have hl3 : (flatL ps q).length + p.l.length ≤ 1000000 := by simpa using hl2
          have HS := Lib.hid hs
          have HIN := Lib.hid hin
          have q0 : (0 : Int) ≤ (q : Int) := by omega
          have q1 : (q : Int) < (j : Int) := by omega
          clear hs hpj hl2 hin
          go_wp2_with (at_builtin; refine sm_append rfl (.tmp 31) (.tmp 32) rfl w.heap.size _ (flatL ps q).length _ rfl own.out p.ad p.l.length p.cap p.l rfl ?_ rfl ?_ ?_ ?_ ?_; (focus (exact HIN.out.nil)); (focus (exact HIN.out.cells)); (focus omega); (focus omega); intro v3 w3 hown3 hg3; have HO3 := Lib.hid hown3; have HG3 := Lib.hid hg3; clear hown3 hg3)
          have E1 : Hid (ownU w3 w.heap.size v3 (flatL ps (q + 1))) := by
            have h := HO3.out
            rw [← ic_app] at h
            rw [HS.out]
            unfold ownU
            rw [List.length_append]
            exact Lib.hid h
          have bw3 : Below w.heap.size w w3 := bw.grown HG3.out hz (fun x hx => (own.out.lt x hx).1)
          clear HO3 HG3 own
          go_roundw
          case rel => exact ⟨q + 1, by omega, by go_num, E1, bw3⟩
          case measure => simp [intOf]; omega
        · obtain rfl : q = j := by omega
          go_wp2_with fail
          go_ret
          exact ⟨_, rfl, own.out, bw⟩
theorem own_pt {w : World} {B : Nat} {v : Value} {l : List Int} (h : ownU w B v l) : ∃ p : Pt, v = p.V ∧ p.l = l ∧ p.In w w.heap.size ∧ v.ownBlock = p.V.ownBlock := by
  have h' := h
  obtain ⟨h1, h2 | ⟨g, cap, cur, rfl, hb, hh, hc, hm, hs, ht⟩⟩ := h
  · refine ⟨⟨none, 0, l⟩, ?_, rfl, ⟨?_, fun _ => rfl, ?_⟩, ?_⟩
    · unfold Pt.V; simp only; rw [h2.2]; exact h2.1
    · simp only; rw [h2.2]; exact Nat.le_refl 0
    · intro h0; simp only at h0; omega
    · unfold Pt.V; rw [h2.1]; rfl
  · refine ⟨⟨some ⟨g, 0, none⟩, cap, l⟩, rfl, rfl, ⟨hc, (fun h => by cases h), fun _ => ⟨g, 0, rfl, (h'.lt g rfl).2, fun i hi => ?_⟩⟩, rfl⟩
    simp only at hi
    have h3 := World.ownsRow.cellAt h' i (by omega)
    rw [Nat.zero_add, h3]
    simp [ic, hi]
theorem bk_pt {w : World} {g : Nat} {t : TypeId} {l : List Int} (h : Bk w g t (ic l).toArray) : (Pt.mk (some ⟨g, 0, none⟩) l.length l).In w w.heap.size :=
  ⟨Nat.le_refl _, (fun h => by cases h), fun _ => ⟨g, 0, rfl, h.lt, fun i hi => by rw [h.cell, Nat.zero_add]; simp [ic]; simp at hi; simp [hi]⟩⟩
end Go.Proofs.Ytgoiidpcdifojaa
