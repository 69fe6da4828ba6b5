/- rows of what is drawn for vaults; two rows of vaults beside a table -/
import Derived.Test.YtedljddjmojeeaaTk
namespace Go.Proofs.Ytedljddjmojeeaa
open Go.RowKit
/-- a row of what is drawn for vaults -/
structure Kvp.In (ad : Option Addr) (cap : Nat) (l : List Kv) (w : World) : Prop where
  len : l.length ≤ cap
  nil : ad = none → cap = 0
  ins : ∀ (i : Nat) (x : Kv), l[i]? = some x → x.In w
  read : 0 < l.length → ∃ a o, ad = some ⟨a, o, none⟩ ∧ a < w.heap.size ∧ ∀ (i : Nat) (x : Kv), l[i]? = some x → w.rangeAt a (o + i * 8) x.C
theorem Kvp.In.ext {ad : Option Addr} {cap : Nat} {l : List Kv} {w w' : World} (h : Kvp.In ad cap l w) (k : Ex w w') : Kvp.In ad cap l w' :=
  ⟨h.len, h.nil, fun i x hx => (h.ins i x hx).ext k, fun h0 => by
    obtain ⟨a, o, e, hB, hc⟩ := h.read h0
    exact ⟨a, o, e, Nat.lt_of_lt_of_le hB k.sz', fun i x hx j v hv => (Below.cell (p := ⟨a, o + i * 8 + j, none⟩) k hB).trans (hc i x hx j v hv)⟩⟩
theorem Try.sizeKv : (Try.prog.info? 48).map (·.size) = some 8 := by kernel_rfl
theorem ld_kv {o : Oper} {a : Act} {w : World} {K : Act → World → Prop} {Q : Exit → Act → World → Prop} (y : Operand) (g off : Nat) (x : Kv) (ho : o.op = .load 48 y) (ha : a.eval y = .pointer (some ⟨g, off, none⟩)) (h : w.rangeAt g off x.C) (hk : K (a.put o.dst x.V) w) : o.wp Try.prog a w K Q := by
  obtain ⟨dd, hd⟩ : ∃ d, Try.prog.underlying 48 = some d ∧ d.isRow = true := ⟨_, Try.underlying48, rfl⟩
  exact wp_load_mid 48 y ho g off ha x.C dd h hd.1 hd.2 (by rw [Try.sizeKv]; rfl) hk
/-- a whole load of a vault's ID out of a row -/
theorem ld_vidr {o : Oper} {a : Act} {w : World} {K : Act → World → Prop} {Q : Exit → Act → World → Prop} (y : Operand) (g off : Nat) (x : Vt) (hx : x.Ok) (ho : o.op = .load 24 y) (ha : a.eval y = .pointer (some ⟨g, off, none⟩)) (h : w.rangeAt g off x.C) (hk : K (a.put o.dst (digV x.id)) w) : o.wp Try.prog a w K Q := by
  obtain ⟨dd, hd⟩ : ∃ d, Try.prog.underlying 24 = some d ∧ d.isRow = true := ⟨_, Try.underlying24, rfl⟩
  refine wp_load_mid 24 y ho g off ha (Lib.byteCells x.id) dd (fun j u hu => h j u ?_) hd.1 hd.2 (by rw [Try.sizeId, byteCells_len, hx.idN]) hk
  have hj : j < (Lib.byteCells x.id).length := (List.getElem?_eq_some_iff.1 hu).1
  unfold Vt.C
  simp only [List.append_assoc]
  rw [List.getElem?_append_left hj]; exact hu
/-- a row of vaults of one's own into which one is stored -/
theorem VRow.store {w : World} {B : Nat} {v : Value} {xs : List Vt} (h : VRow w B v xs) (p : Nat) (hp : p < xs.length) : ∃ (g cap : Nat) (C : List Value), v = .slice (some ⟨g, 0, none⟩) xs.length cap ∧ B ≤ g ∧ Bk w g 30 C.toArray ∧ p * 42 + 42 ≤ C.length ∧
    ∀ z, TVN w z → ∀ w', Bk w' g 30 (C.take (p * 42) ++ z.C ++ C.drop (p * 42 + z.C.length)).toArray → Only g w w' → VRow w' B v (xs.set p z) := by
  obtain ⟨g, cap, C, hv, hB, hb, hl, _, hset⟩ := own_store h.row p hp
  refine ⟨g, cap, C, hv, hB, hb, hl, fun z hz w' hd ho => ⟨?_, fun i y hy => ?_⟩⟩
  · rw [vflat_set h.oks p hp z hz.ok, List.length_set]
    exact hset z.C (Vt.len hz.ok) w' hd
  · have hk : Kt [30] 0 w w' := Kt.md ho.md (Nat.zero_le _) hb (List.mem_singleton.2 rfl)
    rcases List.mem_or_eq_of_mem_set (List.mem_of_getElem? hy) with hm | rfl
    · exact (h.mem hm).kt hk (by decide)
    · exact hz.kt hk (by decide)
/-- what is made of draws: IDs that rise by two -/
def Made (o : Nat) (xs : List Vt) : Prop := xs.length ≤ 4 ∧ ∀ (j : Nat) (x : Vt), xs[j]? = some x → x.ct.right = true ∧ x.id = [UInt8.ofNat (2 * j + o), 0, 0, 0]
theorem Made.nil (o : Nat) : Made o [] := ⟨Nat.zero_le _, fun j x hx => by simp at hx⟩
theorem Made.app {o : Nat} {xs : List Vt} {z : Vt} (h : Made o xs) (hl : xs.length < 4) (hr : z.ct.right = true) (hi : z.id = [UInt8.ofNat (2 * xs.length + o), 0, 0, 0]) : Made o (xs ++ [z]) := by
  refine ⟨by rw [List.length_append]; simp; omega, fun j x hx => ?_⟩
  rcases Nat.lt_or_ge j xs.length with hj | hj
  · rw [List.getElem?_append_left hj] at hx; exact h.2 j x hx
  · rw [List.getElem?_append_right hj] at hx
    have hj2 : j - xs.length = 0 := by have := (List.getElem?_eq_some_iff.1 hx).1; simp at this; omega
    have hj3 : j = xs.length := by omega
    rw [hj2] at hx
    obtain rfl : z = x := by simpa using hx
    rw [hj3]; exact ⟨hr, hi⟩
theorem idn_made : ∀ j, j < 4 → ∀ o, o < 2 → idn [UInt8.ofNat (2 * j + o), 0, 0, 0] = (2 * j + o) * 16777216 := by decide
theorem Made.idF {o : Nat} {xs : List Vt} (h : Made o xs) (ho : o < 2) {j : Nat} (hj : j < xs.length) : idF xs j = (2 * j + o) * 16777216 := by
  have hx : xs[j]? = some xs[j] := List.getElem?_eq_getElem hj
  rw [idF_at xs j _ hx, (h.2 j _ hx).2]
  exact idn_made j (by have := h.1; omega) o ho
theorem Made.rising {o : Nat} {xs : List Vt} (h : Made o xs) (ho : o < 2) : Rising xs := ⟨h.1, fun i x hx => (h.2 i x hx).1, fun i hi => by
  rw [h.idF ho (by omega), h.idF ho hi]; omega⟩
/-- blocks of rows are not one -/
def Dj (v v' : Value) : Prop := ∀ g, v.ownBlock = some g → v'.ownBlock ≠ some g
theorem VRow.md {w w' : World} {B gb : Nat} {v : Value} {xs : List Vt} {cs : Array Value} (h : VRow w B v xs) (k : Md gb w w') (hb : Bk w gb 30 cs) (hne : v.ownBlock ≠ some gb) : VRow w' B v xs := by
  have hk : Kt [30] 0 w w' := Kt.md k (Nat.zero_le _) hb (List.mem_singleton.2 rfl)
  refine ⟨⟨h.row.1, h.row.2.imp id fun ⟨g, cap, cur, hv, hB, hg, hr⟩ => ⟨g, cap, cur, hv, hB, ?_, hr⟩⟩, fun i x hx => (h.ins i x hx).kt hk (by decide)⟩
  have hgb : g ≠ gb := by rintro rfl; rw [hv] at hne; exact hne rfl
  exact (show Bk w' g 30 cur from k.bk hg hgb)
theorem TB.md {w w' : World} {D gb : Nat} {rv : Value} {vs : List Vt} {cs : Array Value} (h : TB w D rv vs) (k : Md gb w w') (hb : Bk w gb 30 cs) (hne : rv.ownBlock ≠ some gb) : TB w' D rv vs :=
  ⟨k.bk h.blk (fun e => by subst e; have h1 := h.blk; unfold Bk at h1 hb; rw [h1] at hb; cases hb), h.row.md k hb hne, h.len, h.srt⟩
/-- a table, a row a, a row b beside it -/
structure FS (w wr : World) (D : Nat) (rv : Value) (vs : List Vt) (va : Value) (xs : List Vt) (vb : Value) (ys : List Vt) : Prop where
  tb : TB wr D rv vs
  a : VRow wr w.heap.size va xs
  b : VRow wr w.heap.size vb ys
  ab : Dj vb va
  rb : Dj vb rv
  lo : w.heap.size ≤ D
  ex : Ex w wr
theorem FS.ext {w wr w' : World} {D : Nat} {rv va vb : Value} {vs xs ys : List Vt} (h : FS w wr D rv vs va xs vb ys) (k : Ex wr w') : FS w w' D rv vs va xs vb ys := ⟨h.tb.ext k, h.a.ext k, h.b.ext k, h.ab, h.rb, h.lo, Ex.trans h.ex k⟩
theorem VRow.own_lt {w : World} {B g : Nat} {v : Value} {xs : List Vt} (h : VRow w B v xs) (hg : v.ownBlock = some g) : g < w.heap.size := (h.row.lt g hg).2
theorem FS.fill {w wr w' : World} {D : Nat} {rv va vb rv' : Value} {vs xs ys zs : List Vt} (h : FS w wr D rv vs va xs vb ys) (ht : TB w' D rv' zs) (hr : ∀ g, rv'.ownBlock = some g → wr.heap.size ≤ g) (k : Kt [99] D wr w') : FS w w' D rv' zs va xs vb ys :=
  ⟨ht, ⟨k.row h.a.row (by decide), fun i x hx => (h.a.ins i x hx).kt k (by decide)⟩, ⟨k.row h.b.row (by decide), fun i x hx => (h.b.ins i x hx).kt k (by decide)⟩, h.ab,
   fun g hg he => by have h1 := hr g he; have h2 := h.b.own_lt hg; omega, h.lo, Below.trans h.ex (k.below.mono h.lo)⟩
theorem FS.setb {w wr w' : World} {D gb : Nat} {rv va vb : Value} {vs xs ys ys' : List Vt} {cs : Array Value} (h : FS w wr D rv vs va xs vb ys) (hg : vb.ownBlock = some gb) (hb : Bk wr gb 30 cs) (k : Md gb wr w') (hn : VRow w' w.heap.size vb ys') : FS w w' D rv vs va xs vb ys' :=
  ⟨h.tb.md k hb (h.rb gb hg), h.a.md k hb (h.ab gb hg), hn, h.ab, h.rb, h.lo, k.ex h.ex ((h.b.row.lt gb hg).1)⟩
theorem swap_two {ys : List Vt} {y0 y1 : Vt} (h0 : ys[0]? = some y0) (h1 : ys[1]? = some y1) : (((ys.set 0 y1).set 1 y0).set 0 y0).set 1 y1 = ys := by
  match ys, h0, h1 with
  | a :: b :: r, h0, h1 =>
    obtain rfl : a = y0 := by simpa using h0
    obtain rfl : b = y1 := by simpa using h1
    rfl
theorem swapped_not {o : Nat} {ys : List Vt} {y0 y1 : Vt} (h : Made o ys) (ho : o < 2) (h0 : ys[0]? = some y0) (h1 : ys[1]? = some y1) : ¬ Rising ((ys.set 0 y1).set 1 y0) := by
  intro hr
  have hl : 1 < ys.length := (List.getElem?_eq_some_iff.1 h1).1
  have h2 := hr.2.2 0 (by rw [List.length_set, List.length_set]; omega)
  rw [idF_at _ 0 y1 (by rw [List.getElem?_set_ne (by decide), List.getElem?_set_self (by omega)]), idF_at _ 1 y0 (List.getElem?_set_self (by rw [List.length_set]; omega))] at h2
  rw [← idF_at ys 1 y1 h1, ← idF_at ys 0 y0 h0, h.idF ho hl, h.idF ho (by omega)] at h2
  omega
end Go.Proofs.Ytedljddjmojeeaa
