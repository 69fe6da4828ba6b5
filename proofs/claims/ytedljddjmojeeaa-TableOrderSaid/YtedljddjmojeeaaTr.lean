/- what is asked of a table; a table beside a plain row -/
import Derived.Test.YtedljddjmojeeaaTq
import Derived.Test.YtedljddjmojeeaaTm
namespace Go.Proofs.Ytedljddjmojeeaa
open Go.RowKit
/-- one call -/
structure At where
  kind : Int
  v : Kv
  la : Option Addr
  lc : Nat
  l : List Kv
  raw : Vt
def At.C (x : At) : List Value := .int .i64 x.kind :: (x.v.C ++ (.slice x.la x.l.length x.lc :: x.raw.C))
def At.V (x : At) : Value := .agg x.C.toArray
structure At.In (x : At) (w : World) : Prop where
  kind : i64 x.kind
  v : x.v.In w
  l : Kvp.In x.la x.lc x.l w
  ln : x.l.length ≤ 9223372036854775807
  raw : VI w x.raw
theorem At.In.ext {x : At} {w w' : World} (h : x.In w) (k : Ex w w') : x.In w' := ⟨h.kind, h.v.ext k, h.l.ext k, h.ln, h.raw.ext k⟩
theorem At.len {x : At} (h : x.raw.Ok) : x.C.length = 52 := by
  unfold At.C
  rw [List.length_cons, List.length_append, List.length_cons, Vt.len h]; rfl
theorem At.ones (x : At) : x.C.toArray.all (·.oneCell') = true := by
  rw [List.all_toArray]
  refine List.all_eq_true.2 fun u hu => ?_
  unfold At.C at hu
  rcases List.mem_cons.1 hu with rfl | hu
  · rfl
  · rcases List.mem_append.1 hu with hu | hu
    · unfold Kv.C at hu
      simp only [List.mem_cons, List.not_mem_nil, or_false] at hu
      rcases hu with rfl | rfl | rfl | rfl | rfl | rfl | rfl | rfl <;> rfl
    · rcases List.mem_cons.1 hu with rfl | hu
      · rfl
      · exact x.raw.C_one u hu
structure Atp.In (ad : Option Addr) (cap : Nat) (l : List At) (w : World) : Prop where
  len : l.length ≤ cap
  nil : ad = none → cap = 0
  ins : ∀ (i : Nat) (x : At), l[i]? = some x → x.In w
  read : 0 < l.length → ∃ a o, ad = some ⟨a, o, none⟩ ∧ a < w.heap.size ∧ ∀ (i : Nat) (x : At), l[i]? = some x → w.rangeAt a (o + i * 52) x.C
theorem Try.sizeAt : (Try.prog.info? 51).map (·.size) = some 52 := by kernel_rfl
section
variable {o : Oper} {a : Act} {w : World} {K : Act → World → Prop} {Q : Exit → Act → World → Prop}
theorem ld_at (y : Operand) (g off : Nat) (x : At) (hx : x.raw.Ok) (ho : o.op = .load 51 y) (ha : a.eval y = .pointer (some ⟨g, off, none⟩)) (h : w.rangeAt g off x.C) (hk : K (a.put o.dst x.V) w) : o.wp Try.prog a w K Q := by
  obtain ⟨dd, hd⟩ : ∃ d, Try.prog.underlying 51 = some d ∧ d.isRow = true := ⟨_, Try.underlying51, rfl⟩
  exact wp_load_mid 51 y ho g off ha x.C dd h hd.1 hd.2 (by rw [Try.sizeAt, At.len hx]) hk
theorem st_at (x y : Operand) (g : Nat) (v : At) (hv : v.raw.Ok) (ho : o.op = .store 51 x y) (ha : a.eval x = .pointer (some ⟨g, 0, none⟩)) (hy : a.eval y = v.V)
    {Y : Array Value} (hB : Bk w g 51 Y) (hY : Y.size = 52) (hk : ∀ w', Bk w' g 51 v.C.toArray → Only g w w' → K (a.put o.dst undef) w') : o.wp Try.prog a w K Q := by
  have hB' : Bk w g 51 Y.toList.toArray := by simpa using hB
  refine wp_stp v.C x y g 0 ho ha hy hB' (by rw [At.len hv]; simp [hY]) (by rw [Try.sizeAt, At.len hv]) v.ones (fun w' h1 h2 => hk w' ?_ h2)
  have e : Y.toList.take 0 ++ v.C ++ Y.toList.drop (0 + v.C.length) = v.C := by
    rw [List.take_zero, List.nil_append, List.drop_eq_nil_of_le (by rw [At.len hv]; simp [hY]), List.append_nil]
  rw [e] at h1; exact h1
end
/-- an ask's block -/
structure AB (w : World) (g : Nat) (x : At) : Prop where
  blk : Bk w g 51 x.C.toArray
theorem AB.ext {w w' : World} {g : Nat} {x : At} (h : AB w g x) (k : Ex w w') : AB w' g x := ⟨h.blk.ext k⟩
theorem AB.kv {w : World} {g : Nat} {x : At} (h : AB w g x) : w.rangeAt g 1 x.v.C := h.blk.part 1 x.v.C rfl
theorem AB.rw_ {w : World} {g : Nat} {x : At} (h : AB w g x) : w.rangeAt g 10 x.raw.C := h.blk.part 10 x.raw.C (List.take_length)
theorem AB.cells {w : World} {g : Nat} {x : At} (h : AB w g x) : w.cell? ⟨g, 0, none⟩ = some (.int .i64 x.kind) ∧ w.cell? ⟨g, 1, none⟩ = some (.int .i64 x.v.id) ∧ w.cell? ⟨g, 9, none⟩ = some (.slice x.la x.l.length x.lc) :=
  ⟨(Bk.cell h.blk 0).trans rfl, (Bk.cell h.blk 1).trans rfl, (Bk.cell h.blk 9).trans rfl⟩
/-- a vault whose secret is an argument's, or lies in a block of bytes -/
def EL (w wr : World) (x : Vt) : Prop := x.Ok ∧ (x.sec.In w w.heap.size ∨ PN wr 0 x.sec)
theorem EL.ext {w wr w' : World} {x : Vt} (h : EL w wr x) (k : Ex wr w') : EL w w' x := ⟨h.1, h.2.imp id fun h => h.ext k⟩
theorem EL.vi {w wr : World} {x : Vt} (h : EL w wr x) (k : Ex w wr) : VI wr x := ⟨h.1, h.2.elim (fun h => h.ext k) (fun h => h.1)⟩
theorem PN.tc {w w' : World} {D gb : Nat} {r : Option Nat} {p : Pt} {rc : Array Value} (h : PN w 0 p) (k : Tc D r w w') (hD : Bk w D 99 rc) (hr : r = none ∨ (r = some gb ∧ ∃ cs, Bk w gb 30 cs)) : PN w' 0 p := by
  have keep : ∀ a cs, Bk w a 5 cs → Bk w' a 5 cs := fun a cs hb => k.bk hb (fun e => by subst e; unfold Bk at hb hD; rw [hb] at hD; cases hD) (by
      rcases hr with rfl | ⟨rfl, cs2, hb2⟩
      · intro e; cases e
      · intro e; cases e; unfold Bk at hb hb2; rw [hb] at hb2; cases hb2)
  refine ⟨⟨h.1.cap, h.1.nil, fun h0 => ?_⟩, fun a e => ⟨Nat.zero_le _, (h.2 a e).2.elim fun cs hc => ⟨cs, keep _ _ hc⟩⟩⟩
  obtain ⟨a, o, e, hB, hc⟩ := h.1.read h0
  obtain ⟨_, cs, hb⟩ := h.2 _ e
  refine ⟨a, o, e, Nat.lt_of_lt_of_le hB k.size, fun i hi => ?_⟩
  rw [← hc i hi]
  have h2 := keep _ _ hb
  unfold Bk at hb h2
  simp only [World.cell?, h2, hb]
theorem EL.tc {w wr w' : World} {D : Nat} {rv : Value} {vs : List Vt} {x : Vt} (h : EL w wr x) (ht : TB wr D rv vs) (k : Tc D rv.ownBlock wr w') : EL w w' x := ⟨h.1, h.2.imp id fun h => by
  rcases ht.row.blk with e | ⟨gb, e, _, _, hb⟩
  · exact PN.tc (gb := 0) h k ht.blk (Or.inl e)
  · exact PN.tc h k ht.blk (Or.inr ⟨e, hb⟩)⟩
theorem EL.kt {S : List Nat} {B : Nat} {w wr w' : World} {x : Vt} (h : EL w wr x) (k : Kt S B wr w') (hs : 5 ∉ S) : EL w w' x := ⟨h.1, h.2.imp id fun h => h.kt k hs⟩
theorem TVN.el {w wr : World} {x : Vt} (h : TVN wr x) : EL w wr x := ⟨h.ok, Or.inr h.sec⟩
/-- a plain row beside a table that has the same -/
structure PS (w wr : World) (D : Nat) (rv : Value) (vs : List Vt) (mv : Value) (ms : List Vt) : Prop where
  tb : TB wr D rv vs
  mrow : RowOf wr w.heap.size mv ms
  mel : ∀ x, x ∈ ms → EL w wr x
  ct : vs.map Vt.ct = ms.map Vt.ct
  dj : Dj mv rv
  lo : w.heap.size ≤ D
  ex : Ex w wr
theorem PS.ext {w wr w' : World} {D : Nat} {rv mv : Value} {vs ms : List Vt} (h : PS w wr D rv vs mv ms) (k : Ex wr w') : PS w w' D rv vs mv ms :=
  ⟨h.tb.ext k, k.row h.mrow, fun x hx => (h.mel x hx).ext k, h.ct, h.dj, h.lo, Ex.trans h.ex k⟩
theorem PS.len {w wr : World} {D : Nat} {rv mv : Value} {vs ms : List Vt} (h : PS w wr D rv vs mv ms) : vs.length = ms.length := by have := congrArg List.length h.ct; simpa using this
theorem PS.idF {w wr : World} {D : Nat} {rv mv : Value} {vs ms : List Vt} (h : PS w wr D rv vs mv ms) (q : Nat) : idF vs q = Go.Proofs.Ytedljddjmojeeaa.idF ms q := by
  rw [idF_ctL (l := vs.map Vt.ct) rfl, idF_ctL (l := ms.map Vt.ct) rfl, h.ct]
theorem row_inn {w : World} {B : Nat} {v : Value} {xs : List Vt} (h : RowOf w B v xs) (hok : ∀ x, x ∈ xs → x.Ok) : ∃ ad cap, v = .slice ad xs.length cap ∧ Vp.In ad cap xs w ∧ cap ≤ 9223372036854775807 := by
  have hok' : ∀ (i : Nat) (x : Vt), xs[i]? = some x → x.Ok := fun i x hx => hok x (List.mem_of_getElem? hx)
  obtain ⟨ad, cap, e, hn, hc, hm, hr⟩ := own_rd h
  refine ⟨ad, cap, e, ⟨hc, hn, hok', fun h0 => ?_⟩, hm⟩
  obtain ⟨a, o, e2, hl, hcell⟩ := hr.read h0
  refine ⟨a, o, e2, hl, fun i x hx j u hu => ?_⟩
  have hj : j < 42 := by have := (List.getElem?_eq_some_iff.1 hu).1; rw [Vt.len (hok' i x hx)] at this; exact this
  have h3 := vflat_at xs hok' i j x hx hj
  rw [Nat.add_assoc]
  exact hcell _ _ (h3.trans hu)
theorem PS.inn {w wr : World} {D : Nat} {rv mv : Value} {vs ms : List Vt} (h : PS w wr D rv vs mv ms) : ∃ ad cap, mv = .slice ad ms.length cap ∧ Vp.In ad cap ms wr ∧ cap ≤ 9223372036854775807 := row_inn h.mrow fun x hx => (h.mel x hx).1
theorem PS.vis {w wr : World} {D : Nat} {rv mv : Value} {vs ms : List Vt} (h : PS w wr D rv vs mv ms) : ∀ (i : Nat) (x : Vt), ms[i]? = some x → VI wr x := fun i x hx => (h.mel x (List.mem_of_getElem? hx)).vi h.ex
theorem RowOf.tc {w w' : World} {B D : Nat} {rv v : Value} {vs xs : List Vt} (h : RowOf w B v xs) (ht : TB w D rv vs) (hd : Dj v rv) (k : Tc D rv.ownBlock w w') : RowOf w' B v xs := by
  refine ⟨h.1, h.2.imp id fun ⟨g, cap, cur, hv, hB, hg, hr⟩ => ⟨g, cap, cur, hv, hB, ?_, hr⟩⟩
  have hgD : g ≠ D := fun e => by subst e; have h1 := ht.blk; unfold Bk at h1; rw [hg] at h1; cases h1
  exact (show Bk w' g 30 cur from k.bk hg hgD (fun e => hd g (by rw [hv]; rfl) e.symm))
theorem Tc.ex2 {w wr w' : World} {D : Nat} {rv : Value} {vs : List Vt} (k : Tc D rv.ownBlock wr w') (ht : TB wr D rv vs) (h : Ex w wr) (lo : w.heap.size ≤ D) : Ex w w' :=
  k.ex h lo (fun g hg => Nat.le_trans lo (Nat.le_of_lt (ht.row.row.lt g hg).1))
theorem lts_take {ms : List Vt} {X p : Nat} (hb : BI ms.length (idF ms) X p) : lts X ms = ms.take p := by
  unfold lts
  conv => lhs; rw [← List.take_append_drop p ms]
  rw [List.filter_append, List.filter_eq_self.2, List.filter_eq_nil_iff.2, List.append_nil]
  · intro x hx
    obtain ⟨i, hi, e⟩ := List.getElem_of_mem hx
    rw [List.getElem_drop] at e
    have hl : p + i < ms.length := by rw [List.length_drop] at hi; omega
    have h1 := hb.2.2 (p + i) (by omega) hl
    rw [idF_at ms (p + i) x (by rw [List.getElem?_eq_getElem hl, e])] at h1
    simp; omega
  · intro x hx
    obtain ⟨i, hi, e⟩ := List.getElem_of_mem hx
    rw [List.getElem_take] at e
    have hl : i < p ∧ i < ms.length := by rw [List.length_take] at hi; omega
    have h1 := hb.2.1 i hl.1
    rw [idF_at ms i x (by rw [List.getElem?_eq_getElem hl.2, e])] at h1
    simpa using h1
theorem gts_drop {ms : List Vt} {X p q : Nat} (hb : BI ms.length (idF ms) X p) (hq : p ≤ q) (h1 : ∀ i, i < q → idF ms i ≤ X) (h2 : ∀ i, q ≤ i → i < ms.length → X < idF ms i) : gts X ms = ms.drop q := by
  unfold gts
  conv => lhs; rw [← List.take_append_drop q ms]
  rw [List.filter_append, List.filter_eq_nil_iff.2, List.filter_eq_self.2, List.nil_append]
  · intro x hx
    obtain ⟨i, hi, e⟩ := List.getElem_of_mem hx
    rw [List.getElem_drop] at e
    have hl : q + i < ms.length := by rw [List.length_drop] at hi; omega
    have h3 := h2 (q + i) (by omega) hl
    rw [idF_at ms (q + i) x (by rw [List.getElem?_eq_getElem hl, e])] at h3
    simpa using h3
  · intro x hx
    obtain ⟨i, hi, e⟩ := List.getElem_of_mem hx
    rw [List.getElem_take] at e
    have hl : i < q ∧ i < ms.length := by rw [List.length_take] at hi; omega
    have h3 := h1 i hl.1
    rw [idF_at ms i x (by rw [List.getElem?_eq_getElem hl.2, e])] at h3
    simp; omega
theorem and_mask (a : Int) (m : Nat) (hm : m ≤ 255) : ∃ c : Nat, bits .and .i64 a (m : Int) = (c : Int) ∧ c ≤ m := by
  refine ⟨(BitVec.ofInt 64 a &&& BitVec.ofInt 64 (m : Int)).toNat, ?_, ?_⟩
  · have h1 : (BitVec.ofInt 64 a &&& BitVec.ofInt 64 (m : Int)).toNat ≤ m := by
      rw [BitVec.toNat_and, BitVec.ofInt_natCast, BitVec.toNat_ofNat, Nat.mod_eq_of_lt (by omega)]
      exact Nat.and_le_right
    exact IntWalk.i64_in ((BitVec.ofInt 64 a &&& BitVec.ofInt 64 (m : Int)).toNat : Int) ⟨by omega, by omega⟩
  · rw [BitVec.toNat_and, BitVec.ofInt_natCast, BitVec.toNat_ofNat, Nat.mod_eq_of_lt (by omega)]
    exact Nat.and_le_right
/-- where the row has an ID: what the statements look for -/
def KS (ms : List Vt) (X j : Nat) (kk : Int) : Prop := (kk = -1 ∧ ∀ q, q < j → idF ms q ≠ X) ∨ ∃ p : Nat, p < j ∧ kk = (p : Int) ∧ idF ms p = X
end Go.Proofs.Ytedljddjmojeeaa
