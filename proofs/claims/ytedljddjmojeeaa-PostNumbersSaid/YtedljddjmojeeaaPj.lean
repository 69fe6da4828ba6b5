/- what PostOrder stands on: rows of letters that come in; what offices hold while letters are put, held, taken, freed -/
import Derived.Test.YtedljddjmojeeaaPh
namespace Go.Proofs.Ytedljddjmojeeaa
open Go.RowKit
theorem Pt.In.take {p : Pt} {w : World} {B : Nat} (h : p.In w B) (k : Nat) : (Pt.mk p.ad p.cap (p.l.take k)).In w B := by
  refine ⟨?_, h.nil, fun h0 => ?_⟩
  · have := h.cap
    show (p.l.take k).length ≤ p.cap
    rw [List.length_take]; omega
  · have h0' : 0 < (p.l.take k).length := h0
    rw [List.length_take] at h0'
    obtain ⟨a, o, e, hB, hc⟩ := h.read (by omega)
    refine ⟨a, o, e, hB, fun i hi => ?_⟩
    have hi' : i < (p.l.take k).length := hi
    rw [List.length_take] at hi'
    rw [hc i (by omega)]
    simp [List.getD, List.getElem?_take, show i < k by omega]
structure Lt.In (x : Lt) (w : World) : Prop where
  k : -9223372036854775808 ≤ x.kind ∧ x.kind ≤ 9223372036854775807
  f : -9223372036854775808 ≤ x.frm ∧ x.frm ≤ 9223372036854775807
  t : -9223372036854775808 ≤ x.to ∧ x.to ≤ 9223372036854775807
  b : x.bs.In w w.heap.size
  n : x.bs.l.length ≤ 9223372036854775807
theorem Lt.In.ext {x : Lt} {w w' : World} (h : x.In w) (k : Ex w w') : x.In w' := { h with b := h.b.ext k }
structure Lp.In (ad : Option Addr) (cap : Nat) (l : List Lt) (w : World) : Prop where
  len : l.length ≤ cap
  nil : ad = none → cap = 0
  ins : ∀ (i : Nat) (x : Lt), l[i]? = some x → x.In w
  read : 0 < l.length → ∃ a o, ad = some ⟨a, o, none⟩ ∧ a < w.heap.size ∧ ∀ (i : Nat) (x : Lt), l[i]? = some x → w.rangeAt a (o + i * 4) x.C
/-- a row of numbers -/
def IIn (ad : Option Addr) (m : Nat) (Z : Nat → Int) (w : World) : Prop := m ≤ 9223372036854775807 ∧ (∀ i, i < m → -9223372036854775808 ≤ Z i ∧ Z i ≤ 9223372036854775807) ∧ (0 < m → ∃ a o, ad = some ⟨a, o, none⟩ ∧ a < w.heap.size ∧ ∀ i, i < m → w.cell? ⟨a, o + i, none⟩ = some (.int .i64 (Z i)))
/-- the j-th letter that is put -/
def pc (l : List Lt) (j : Nat) : Lc := ⟨j, 0, 0, ((l.getD j zeroLt).bs.l).take 20⟩
theorem pc_kind (l : List Lt) (j : Nat) : (pc l j).kind = (j : Int) := rfl
def mkL (l : List Lt) (k : Nat) : List (Bool × Lc) := (List.range k).map fun j => (false, pc l j)
theorem mkL_succ (l : List Lt) (k : Nat) : mkL l (k + 1) = mkL l k ++ [(false, pc l k)] := by
  unfold mkL; rw [List.range_succ, List.map_append]; rfl
theorem mkL_len (l : List Lt) (k : Nat) : (mkL l k).length = k := by simp [mkL]
def ltp (x : Lt) (k : Nat) : Lt := ⟨k, 0, 0, ⟨x.bs.ad, x.bs.cap, x.bs.l.take 20⟩⟩
theorem ltp_ok (x : Lt) (k : Nat) (hk : k ≤ 1000000) : (ltp x k).Ok := ⟨by show (_ : Int) ≤ (k : Int); omega, by show (k : Int) ≤ _; omega, by show (_ : Int) ≤ 0; omega, by show (0 : Int) ≤ _; omega, by show (_ : Int) ≤ 0; omega, by show (0 : Int) ≤ _; omega⟩
theorem ltp_built (x : Lt) (k : Nat) : Try.prog.built 70 [(0, .int .i64 k), (3, (Pt.mk x.bs.ad x.bs.cap (x.bs.l.take 20)).V)] = some (ltp x k).C.toArray := by
  obtain ⟨a, b, c, ad, cap, s⟩ := x
  kernel_rfl
theorem put_order (O : Nat) (l : List Lt) (k : Nat) (x : Lt) (hk : k < 30) (hx : l[k]? = some x) (w : World) (h : OF w O (mkL l k)) (hi : x.In w) : Calls Try.prog 31 #[.pointer (some ⟨O, 0, none⟩), (ltp x k).V] w (WPost O (mkL l (k + 1)) true w) := by
  have hl : (ltp x k).bs.l.length ≤ 20 := by show (x.bs.l.take 20).length ≤ 20; rw [List.length_take]; omega
  have e : canPut (mkL l k).length (ltp x k).bs.l.length = true := by
    unfold canPut; rw [mkL_len, decide_eq_true (show k < 64 by omega), decide_eq_true (show (ltp x k).bs.l.length ≤ 8192 by omega)]; rfl
  have hc : (ltp x k).ct = pc l k := by
    unfold pc Lt.ct ltp
    rw [List.getD_eq_getElem?_getD, hx]; rfl
  have := put_any O (mkL l k) (ltp x k) w h (ltp_ok x k (by omega)) (hi.b.take 20) (by omega)
  rw [e, if_pos rfl, hc, ← mkL_succ] at this
  exact this
/-- an office of n letters in their order, of which some are held -/
structure Hs (l : List Lt) (n held : Nat) (ls : List (Bool × Lc)) : Prop where
  map : ls.map (·.2) = (List.range n).map (pc l)
  cnt : ls.countP (·.1) = held
theorem Hs.zero (l : List Lt) (n : Nat) : Hs l n 0 (mkL l n) := by
  refine ⟨by simp [mkL], ?_⟩
  unfold mkL
  rw [List.countP_eq_zero]
  intro x hx
  rw [List.mem_map] at hx
  obtain ⟨j, _, rfl⟩ := hx
  simp
theorem Hs.len {l : List Lt} {n held : Nat} {ls : List (Bool × Lc)} (h : Hs l n held ls) : ls.length = n := by
  have := congrArg List.length h.map; simpa using this
theorem Hs.le {l : List Lt} {n held : Nat} {ls : List (Bool × Lc)} (h : Hs l n held ls) : held ≤ n := by
  rw [← h.len, ← h.cnt]; exact List.countP_le_length
theorem Hs.hold {l : List Lt} {n held m : Nat} {c : Lc} {ls : List (Bool × Lc)} (h : Hs l n held ls) (hx : ls[m]? = some (false, c)) : Hs l n (held + 1) (ls.set m (true, c)) := by
  have hm := (List.getElem?_eq_some_iff.1 hx).1
  have he := (List.getElem?_eq_some_iff.1 hx).2
  refine ⟨?_, ?_⟩
  · rw [List.map_set, ← h.map]
    have : (ls.map (·.2))[m]'(by simpa using hm) = c := by rw [List.getElem_map, he]
    conv => lhs; rw [show (true, c).2 = c from rfl, ← this]
    rw [List.set_getElem_self]
  · rw [List.countP_set hm, he, h.cnt]; simp
/-- while letters are taken -/
structure Ks (l : List Lt) (n held free : Nat) (last : Int) (ls : List (Bool × Lc)) : Prop where
  all : ∀ x ∈ ls, ∃ j, j < n ∧ x.2 = pc l j
  srt : ls.Pairwise fun a b => a.2.kind < b.2.kind
  big : ∀ x ∈ ls, x.1 = false → last < x.2.kind
  free : ls.countP (fun x => !x.1) = free
  held : ls.countP (·.1) = held
theorem Hs.ks {l : List Lt} {n held : Nat} {ls : List (Bool × Lc)} (h : Hs l n held ls) : Ks l n held (n - held) (-1) ls := by
  have hall : ∀ x ∈ ls, ∃ j, j < n ∧ x.2 = pc l j := fun x hx => by
    have : x.2 ∈ ls.map (·.2) := List.mem_map_of_mem hx
    rw [h.map, List.mem_map] at this
    obtain ⟨j, hj, e⟩ := this
    exact ⟨j, List.mem_range.1 hj, e.symm⟩
  refine ⟨hall, ?_, fun x hx _ => ?_, ?_, h.cnt⟩
  · have hp : (ls.map (·.2)).Pairwise fun a b => a.kind < b.kind := by
      rw [h.map, List.pairwise_map]
      exact List.pairwise_lt_range.imp fun hab => by rw [pc_kind, pc_kind]; omega
    rwa [List.pairwise_map] at hp
  · obtain ⟨j, _, e⟩ := hall x hx
    rw [e, pc_kind]; omega
  · have := List.length_eq_countP_add_countP (p := fun x : Bool × Lc => x.1) (l := ls)
    rw [h.len, h.cnt] at this
    have e : ls.countP (fun x => !x.1) = ls.countP (fun a => decide ¬(a.1 = true)) := by
      congr 1; funext a; cases a.1 <;> rfl
    rw [e]; omega
theorem Ks.len {l : List Lt} {n held free : Nat} {last : Int} {ls : List (Bool × Lc)} (h : Ks l n held free last ls) : ls.length = held + free := by
  have := List.length_eq_countP_add_countP (p := fun x : Bool × Lc => x.1) (l := ls)
  have e : ls.countP (fun x => !x.1) = ls.countP (fun a => decide ¬(a.1 = true)) := by
    congr 1; funext a; cases a.1 <;> rfl
  rw [← e, h.free, h.held] at this
  exact this
theorem Ks.take {l : List Lt} {n held free : Nat} {last : Int} {ls : List (Bool × Lc)} (h : Ks l n held (free + 1) last ls) : ∃ (k j : Nat), ls[k]? = some (false, pc l j) ∧ firstO ls = k ∧ j < n ∧ last < (j : Int) ∧ Ks l n held free j (ls.eraseIdx k) := by
  cases hf : ls.findIdx? (fun x => !x.1) with
  | none =>
    rw [List.findIdx?_eq_none_iff] at hf
    have : ls.countP (fun x => !x.1) = 0 := by
      rw [List.countP_eq_zero]; intro x hx; rw [hf x hx]; simp
    rw [h.free] at this; omega
  | some k =>
    have hk := List.findIdx?_eq_some_iff_getElem.1 hf
    obtain ⟨hkl, hkf, hkb⟩ := hk
    obtain ⟨j, hj, hje⟩ := h.all _ (List.getElem_mem hkl)
    have h1 : (ls[k]).1 = false := by simpa using hkf
    have hx : ls[k]? = some (false, pc l j) := by
      rw [List.getElem?_eq_getElem hkl]; congr 1; exact Prod.ext h1 hje
    have hb := h.big _ (List.getElem_mem hkl) h1
    rw [hje, pc_kind] at hb
    have hs : ls = ls.take k ++ ls[k] :: ls.drop (k + 1) := by rw [← List.drop_eq_getElem_cons hkl, List.take_append_drop]
    have he : ls.eraseIdx k = ls.take k ++ ls.drop (k + 1) := List.eraseIdx_eq_take_drop_succ ..
    have hsub := List.eraseIdx_sublist ls k
    have hp : ∀ y ∈ ls.drop (k + 1), (ls[k]).2.kind < y.2.kind := by
      have := h.srt
      rw [hs, List.pairwise_append] at this
      exact (List.pairwise_cons.1 this.2.1).1
    have cnt : ∀ p : Bool × Lc → Bool, ls.countP p = (ls.eraseIdx k).countP p + (if p ls[k] then 1 else 0) := fun p => by
      rw [he]
      conv => lhs; rw [hs]
      rw [List.countP_append, List.countP_append, List.countP_cons]; omega
    refine ⟨k, j, hx, by unfold firstO; rw [hf], hj, hb, fun x hx => h.all x (hsub.subset hx), h.srt.sublist hsub, fun x hx hxf => ?_, ?_, ?_⟩
    · rw [he, List.mem_append] at hx
      rcases hx with hx | hx
      · obtain ⟨i, hi, e⟩ := List.getElem_of_mem hx
        rw [List.length_take] at hi
        rw [List.getElem_take] at e
        have := hkb i (by omega)
        rw [e, hxf] at this
        simp at this
      · have := hp x hx
        rw [hje, pc_kind] at this
        exact this
    · have := cnt fun x => !x.1
      rw [h.free, h1] at this; simp at this; omega
    · have := cnt fun x => x.1
      rw [h.held, h1] at this; simp at this; omega
theorem Ks.done {l : List Lt} {n held : Nat} {last : Int} {ls : List (Bool × Lc)} (h : Ks l n held 0 last ls) : ls.length = held ∧ ∀ j, j < ls.length → ∃ y, ls[j]? = some (true, y) := by
  refine ⟨by rw [h.len]; rfl, fun j hj => ?_⟩
  have := List.countP_eq_zero.1 h.free _ (List.getElem_mem hj)
  exact ⟨(ls[j]).2, by rw [List.getElem?_eq_getElem hj]; congr 1; exact Prod.ext (by simpa using this) rfl⟩
/-- while letters are freed -/
structure Fs (held i : Nat) (ls : List (Bool × Lc)) : Prop where
  len : ls.length = held
  lo : ∀ j, j < i → j < held → ∃ y, ls[j]? = some (false, y)
  hi : ∀ j, i ≤ j → j < held → ∃ y, ls[j]? = some (true, y)
theorem Fs.step {held i : Nat} {ls : List (Bool × Lc)} {c : Lc} (h : Fs held i ls) (hi : i < held) : Fs held (i + 1) (ls.set i (false, c)) := by
  refine ⟨by rw [List.length_set]; exact h.len, fun j hj hh => ?_, fun j hj hh => ?_⟩
  · by_cases e : i = j
    · subst e; exact ⟨c, List.getElem?_set_self (by rw [h.len]; exact hi)⟩
    · rw [List.getElem?_set_ne e]; exact h.lo j (by omega) hh
  · rw [List.getElem?_set_ne (by omega)]; exact h.hi j (by omega) hh
theorem Fs.end {held : Nat} {ls : List (Bool × Lc)} (h : Fs held held ls) : (0 < held → firstO ls = 0) ∧ (held = 0 → firstO ls = -1) := by
  refine ⟨fun h0 => ?_, fun h0 => ?_⟩
  · obtain ⟨y, hy⟩ := h.lo 0 h0 h0
    exact firstO_at hy fun j hj => absurd hj (Nat.not_lt_zero j)
  · exact firstO_none fun j hj => by rw [h.len] at hj; omega
end Go.Proofs.Ytedljddjmojeeaa
