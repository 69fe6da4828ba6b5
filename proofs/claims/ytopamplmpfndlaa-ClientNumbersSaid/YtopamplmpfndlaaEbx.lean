/- Di, Dk, Dm -/
import Derived.Test.YtopamplmpfndlaaEbw
import Derived.Great.BuildSlice
import Derived.Deep.Upon
set_option maxRecDepth 100000
set_option maxHeartbeats 16000000
namespace Go.Proofs.Ytopamplmpfndlaa.Cl
open Go.RowKit
theorem Akp.ext {w w' : World} {ad : Option Addr} {cap : Nat} {l : List Ak} (h : Akp w ad cap l) (k : Ex w w') : Akp w' ad cap l :=
 ⟨h.le, h.nil, fun i x hx => (h.ins i x hx).ext k, fun h0 => by
  obtain ⟨a, o, e, ha, hc⟩ := h.read h0
  exact ⟨a, o, e, Nat.lt_of_lt_of_le ha k.size, fun i x hx j u hu => (Below.cell (p := ⟨a, o + i * 30 + j, none⟩) k ha).trans (hc i x hx j u hu)⟩⟩
theorem Akp.none (w : World) : Akp w none 0 [] := ⟨Nat.le_refl _, fun _ => rfl, fun i x hx => by simp at hx, fun h => absurd h (Nat.lt_irrefl 0)⟩
end Go.Proofs.Ytopamplmpfndlaa.Cl
namespace Go.Proofs.Ytopamplmpfndlaa.Cl
open Go.RowKit
section
variable {α : Type} (C : α → List Value) (sz : Nat)
theorem gflat_at : ∀ (l : List α) (_ : ∀ x ∈ l, (C x).length = sz) (i j : Nat) (x : α), l[i]? = some x → j < sz → (l.flatMap C)[i * sz + j]? = (C x)[j]?
 | [], _, _, _, _, h, _ => by simp at h
 | y :: r, H, 0, j, x, h, hj => by
  obtain rfl : y = x := by simpa using h
  rw [List.flatMap_cons, Nat.zero_mul, Nat.zero_add, List.getElem?_append_left (by rw [H y List.mem_cons_self]; exact hj)]
 | y :: r, H, i + 1, j, x, h, hj => by
  have hy := H y List.mem_cons_self
  have e : (i + 1) * sz + j = sz + (i * sz + j) := by rw [Nat.add_mul, Nat.one_mul]; omega
  rw [List.flatMap_cons, e, List.getElem?_append_right (by rw [hy]; omega), hy, Nat.add_sub_cancel_left]
  exact gflat_at r (fun z hz => H z (List.mem_cons_of_mem _ hz)) i j x (by simpa using h) hj
theorem gflat_back {w : World} {ad : Option Addr} {l : List α} (H : ∀ x ∈ l, (C x).length = sz) (h : Rd w ad l.length sz (l.flatMap C)) : 0 < l.length → ∃ a o, ad = some ⟨a, o, none⟩ ∧ a < w.heap.size ∧ ∀ (i : Nat) (x : α), l[i]? = some x → w.rangeAt a (o + i * sz) (C x) := fun h0 => by
 obtain ⟨a, o, e, hl, hc⟩ := h.read h0
 refine ⟨a, o, e, hl, fun i x hx j u hu => ?_⟩
 have hj : j < sz := by
  have := (List.getElem?_eq_some_iff.1 hu).1
  rw [H x (List.mem_of_getElem? hx)] at this; exact this
 rw [Nat.add_assoc]
 exact hc _ _ (by rw [gflat_at C sz l H i j x hx hj]; exact hu)
end
theorem wp_bs1 {o : Oper} {a : Act} {w : World} {K : Act → World → Prop} {Q : Exit → Act → World → Prop} (t e : TypeId) (z : Value) (sz bytes : Nat) (y : Operand) (C : List Value) (ho : o.op = .buildSlice t 1 #[(0, y)]) (hu : Try.prog.underlying t = some (.slice e))
  (hinfo : (Try.prog.info? e).map (fun i => (i.zero, i.size, i.bytes)) = some (some z, sz, bytes)) (hz : z.cells.size = sz) (hp : 0 < sz) (hs : sz ≤ 1000) (hC : C.length = sz) (hy : a.eval y = .agg C.toArray)
  (hk : K (a.put o.dst (.slice (some ⟨w.heap.size, 0, none⟩) 1 1)) (w.alloc (.cells C.toArray e))) : o.wp Try.prog a w K Q := by
 obtain ⟨i0, hi0, hz0, hz1, hz2⟩ := info_parts hinfo
 refine wp_buildSlice t e 1 #[(0, y)] ho C.toArray i0 z hu hi0 hz0 (by rw [hz1]; omega) (by rw [hz1]; omega) ?_ hk
 have h := Great.fill_whole (s := sz) hp [.agg C.toArray] ((Array.range (1 * sz)).map (z.cells[· % z.cells.size]!)) (fun v hv => by rw [List.mem_singleton.1 hv]; show C.toArray.size = sz; simpa using hC) (by simp)
 rw [hz1]
 have e1 : ((#[(0, y)] : Array (Nat × Operand)).map fun x => (x.1, a.eval x.2)).toList = ([Value.agg C.toArray].zipIdx 0).map fun x => (x.2, x.1) := by simp [hy]
 refine (congrArg _ e1).trans (h.trans ?_)
 simp [Value.cells]
def SN9 (w : World) (p : Pt) : Prop := p.In w w.heap.size ∧ ∀ a, p.ad = some a → ∃ cs fr, w.heap[a.block]? = some (.cells cs 5 fr)
theorem SN9.ext {w w' : World} {p : Pt} (h : SN9 w p) (k : Ex w w') : SN9 w' p := ⟨h.1.ext k, fun a e => by obtain ⟨cs, fr, hc⟩ := h.2 a e; exact ⟨cs, fr, (k.block _ (blk_lt hc)).trans hc⟩⟩
theorem SN9.kt {S : List Nat} {B : Nat} {w w' : World} {p : Pt} (h : SN9 w p) (k : Kt S B w w') (hs : 5 ∉ S) : SN9 w' p := by
 refine ⟨⟨h.1.cap, h.1.nil, fun h0 => ?_⟩, fun a e => by obtain ⟨cs, fr, hc⟩ := h.2 a e; exact ⟨cs, fr, k.typ _ _ _ _ hc hs⟩⟩
 obtain ⟨a, o, e, hB, hc⟩ := h.1.read h0
 obtain ⟨cs, fr, hb⟩ := h.2 _ e
 refine ⟨a, o, e, Nat.lt_of_lt_of_le hB k.size, fun i hi => ?_⟩
 rw [← hc i hi]
 have h2 := k.typ _ _ _ _ hb hs
 simp only [World.cell?, h2, hb]
structure Fz (w w' : World) : Prop where
 size : w.heap.size ≤ w'.heap.size
 blk : ∀ (i : Nat) cs t fr, w.heap[i]? = some (.cells cs t fr) → ∃ fr', w'.heap[i]? = some (.cells cs t fr')
theorem fz_of {w w' : World} {g : Nat} {C : Array Value} {fr : Nat × Nat} (hb : Bk w g 5 C) (h2 : w'.heap[g]? = some (.cells C 5 fr)) (k : w.grownBy w' (some g)) : Fz w w' := by
 refine ⟨((Below.refl 0 w).grown k (Nat.zero_le _) (fun _ _ => Nat.zero_le _)).size, fun i cs t f hi => ?_⟩
 by_cases e : i = g
 · subst e
   have hb : w.heap[i]? = some (.cells C 5 (0, 0)) := hb
   rw [hb] at hi
   cases hi
   exact ⟨_, h2⟩
 exact ⟨f, (k.block i (blk_lt hi) (by intro he; exact e (by first | exact (Option.some.inj he).symm | exact Option.some.inj he | simpa using he.symm | simpa using he))).trans hi⟩
theorem kt_of {w w' : World} {B g : Nat} {C : Array Value} (hb : Bk w g 5 C) (k : w.grownBy w' (some g)) (hg : B ≤ g) (hB : B ≤ w.heap.size) : Kt [5] B w w' := by
 refine ⟨(Below.refl B w).grown k hB (fun j hj => by cases hj; exact hg), fun i cs t fr hi h1 => (k.block i (blk_lt hi) ?_).trans hi⟩
 intro he
 obtain rfl : i = g := by first | exact (Option.some.inj he).symm | exact Option.some.inj he | simpa using he.symm | simpa using he
 have hb : w.heap[i]? = some (.cells C 5 (0, 0)) := hb
 rw [hb] at hi
 cases hi
 exact h1 (List.mem_singleton.2 rfl)
theorem SN9.fz {w w' : World} {p : Pt} (h : SN9 w p) (k : Fz w w') : SN9 w' p := by
 refine ⟨⟨h.1.cap, h.1.nil, fun h0 => ?_⟩, fun a e => by obtain ⟨cs, fr, hc⟩ := h.2 a e; obtain ⟨f2, h2⟩ := k.blk _ _ _ _ hc; exact ⟨cs, f2, h2⟩⟩
 obtain ⟨a, o, e, hB, hc⟩ := h.1.read h0
 obtain ⟨cs, fr, hb⟩ := h.2 _ e
 refine ⟨a, o, e, Nat.lt_of_lt_of_le hB k.size, fun i hi => ?_⟩
 rw [← hc i hi]
 obtain ⟨f2, h2⟩ := k.blk _ _ _ _ hb
 simp only [World.cell?, h2, hb]
theorem sn_lit {w : World} {g : Nat} {l : List UInt8} {fr : Nat × Nat} (hb : w.heap[g]? = some (.cells (Lib.byteCells l).toArray 5 fr)) : SN9 w ⟨some ⟨g, 0, none⟩, l.length, l⟩ :=
 ⟨⟨Nat.le_refl _, (fun h => by cases h), fun _ => ⟨g, 0, rfl, blk_lt hb, fun i hi => by
   have hi : i < l.length := hi
   rw [Nat.zero_add]
   simp [World.cell?, hb, Lib.byteCells, List.getD, hi]⟩⟩, fun a e => by cases e; exact ⟨_, _, hb⟩⟩
structure AkN (w : World) (x : Ak) : Prop where
 ai : AI w x
 s : SN9 w x.sec
 r : SN9 w x.r.sec
 b : SN9 w x.b
 z : x.raw.sec = nilB
theorem AkN.re {w w' : World} {x : Ak} (h : AkN w x) (s : SN9 w' x.sec) (r : SN9 w' x.r.sec) (b : SN9 w' x.b) : AkN w' x :=
 ⟨⟨h.ai.kind, h.ai.i, h.ai.member, h.ai.turn, h.ai.op, h.ai.id, h.ai.pin, h.ai.lim, h.ai.own, s.1, h.ai.secN, ⟨h.ai.r.ok, r.1⟩, h.ai.rN, b.1, h.ai.bN, ⟨h.ai.raw.ok, by rw [h.z]; exact nilB_in _ _⟩⟩, s, r, b, h.z⟩
theorem AkN.ext {w w' : World} {x : Ak} (h : AkN w x) (k : Ex w w') : AkN w' x := h.re (h.s.ext k) (h.r.ext k) (h.b.ext k)
theorem AkN.kt {S : List Nat} {B : Nat} {w w' : World} {x : Ak} (h : AkN w x) (k : Kt S B w w') (hs : 5 ∉ S) : AkN w' x := h.re (h.s.kt k hs) (h.r.kt k hs) (h.b.kt k hs)
theorem AkN.fz {w w' : World} {x : Ak} (h : AkN w x) (k : Fz w w') : AkN w' x := h.re (h.s.fz k) (h.r.fz k) (h.b.fz k)
theorem Ak.C_one (x : Ak) : ∀ u ∈ x.C, u.oneCell' = true := by
 have := x.ones
 rw [List.all_toArray] at this
 exact List.all_eq_true.1 this
structure AkR (w : World) (B : Nat) (v : Value) (xs : List Ak) : Prop where
 row : w.ownsRow B 33 30 v xs.length (xs.flatMap Ak.C)
 ins : ∀ x ∈ xs, AkN w x
theorem AkR.nil (w : World) (B : Nat) : AkR w B (.slice none 0 0) [] := ⟨World.ownsRow_nil _ _ _ _, fun x hx => by simp at hx⟩
theorem AkR.ext {w w' : World} {B : Nat} {v : Value} {xs : List Ak} (h : AkR w B v xs) (k : Ex w w') : AkR w' B v xs := ⟨k.row h.row, fun x hx => (h.ins x hx).ext k⟩
theorem AkR.fz {w w' : World} {B B' : Nat} {v : Value} {xs : List Ak} (h : AkR w B v xs) (k : Kt [5] B' w w') (f : Fz w w') : AkR w' B v xs := ⟨k.row h.row (by decide), fun x hx => (h.ins x hx).fz f⟩
theorem AkR.app {w w2 : World} {B B' : Nat} {v v' : Value} {xs : List Ak} {z : Ak} (h : AkR w B v xs) (k : Kt [33] B' w w2) (hr : w2.ownsRow B 33 30 v' (xs.length + 1) (xs.flatMap Ak.C ++ z.C)) (hz : AkN w z) : AkR w2 B v' (xs ++ [z]) :=
 ⟨by rw [List.length_append, List.flatMap_append]; simpa using hr, fun x hx => by
  rcases List.mem_append.1 hx with h1 | h1
  ·exact (h.ins x h1).kt k (by decide)
  ·rw [List.mem_singleton.1 h1]; exact hz.kt k (by decide)⟩
theorem AkR.akp {w : World} {B : Nat} {v : Value} {xs : List Ak} (h : AkR w B v xs) : ∃ ad cap, v = .slice ad xs.length cap ∧ Akp w ad cap xs := by
 obtain ⟨ad, cap, e, hnil, hc, _, hr⟩ := own_rd h.row
 refine ⟨ad, cap, e, hc, hnil, fun i x hx => (h.ins x (List.mem_of_getElem? hx)).ai, fun h0 => ?_⟩
 obtain ⟨a, o, e2, hl, hcs⟩ := gflat_back Ak.C 30 (fun x hx => Ak.len (h.ins x hx).ai) hr h0
 exact ⟨a, o, e2, hl, fun i x hx j u hu => hcs i x hx j u hu⟩
def zeroWk : Wt := ⟨0, [0, 0, 0, 0], ⟨#[]⟩, nilB, 0, ⟨#[]⟩⟩
def RJ (j : Int) (p : Pt) : Rt := ⟨0, [0, 0, 0, 0], 0, j, p, 0, 0⟩
def zeroAk : Value := .agg (Ak.C ⟨0, 0, 0, 0, 0, 0, 0, 0, ⟨#[]⟩, nilB, RJ 0 nilB, nilB, zeroWk⟩).toArray
theorem Try.infoAk : (Try.prog.info? 33).map (fun i => (i.zero, i.size, i.bytes)) = some (some zeroAk, 30, 280) := by kernel_rfl
theorem built_rj (j : Int) (p : Pt) : Try.prog.built 29 [(3, .int .i64 j), (4, p.V)] = some (RJ j p).C.toArray := by kernel_rfl
theorem built_akj (a b c d e f g h j : Int) (s : ByteArray) (p q r : Pt) : Try.prog.built 33 [(0, .int .i64 a), (1, .int .i64 b), (2, .int .i64 c), (3, .int .i64 d), (4, .int .i64 e), (5, .int .i64 f), (6, .int .i64 g), (7, .int .i64 h), (8, .string s), (9, p.V), (10, (RJ j q).V), (11, r.V)] = some (Ak.C ⟨a, b, c, d, e, f, g, h, s, p, RJ j q, r, zeroWk⟩).toArray := by kernel_rfl
def K22 : List UInt8 := [2, 0, 0, 0, 0, 0, 0, 0, 0, 0, 0, 0, 0, 0, 0, 0]
theorem built_k22 : Try.prog.built 36 [(0, .int .u8 2)] = some (Lib.byteCells K22).toArray := by kernel_rfl
def PZ (w : World) (v : Value) : Prop := ∃ p : Pt, v = p.V ∧ SN9 w p ∧ p.l.length ≤ 100
theorem PZ.ext {w w' : World} {v : Value} (h : PZ w v) (k : Ex w w') : PZ w' v := by obtain ⟨p, e, a, b⟩ := h; exact ⟨p, e, a.ext k, b⟩
theorem PZ.fz {w w' : World} {v : Value} (h : PZ w v) (k : Fz w w') : PZ w' v := by obtain ⟨p, e, a, b⟩ := h; exact ⟨p, e, a.fz k, b⟩
theorem PZ.many {w : World} {n : Nat} {v : Value} (h : Many w 5 n (Lib.byteCells (List.replicate n 0)) v) (hn : n ≤ 100) : PZ w v := by
 obtain ⟨g, rfl, hb⟩ := h
 have := sn_lit (l := List.replicate n 0) hb
 refine ⟨_, ?_, this, by simp [hn]⟩
 simp [Pt.V]
def NP (j : Int) : Nat → World → Value → Prop
 | 17, w, v => PZ w v
 | 20, w, v => PZ w v
 | 23, w, v => PZ w v
 | 21, w, v => ∃ p : Pt, v = (RJ j p).V ∧ SN9 w p ∧ p.l.length ≤ 100
 | 24, w, v => ∃ x : Ak, v = x.V ∧ AkN w x
 | 25, w, v => ∃ (x : Ak) (g : Nat), v = .slice (some ⟨g, 0, none⟩) 1 1 ∧ AkN w x ∧ Bk w g 33 x.C.toArray
 | _, _, _ => True
theorem NP.ext {j : Int} {i : Nat} {w w' : World} {v : Value} (h : NP j i w v) (k : Ex w w') : NP j i w' v := by
 unfold NP at h ⊢
 split at h
 ·exact PZ.ext h k
 ·exact PZ.ext h k
 ·exact PZ.ext h k
 ·obtain ⟨p, a, b, c⟩ := h; exact ⟨p, a, b.ext k, c⟩
 ·obtain ⟨x, a, b⟩ := h; exact ⟨x, a, b.ext k⟩
 ·obtain ⟨x, g, a, b, c⟩ := h; exact ⟨x, g, a, b.ext k, c.ext k⟩
 exact trivial
theorem NP.fz {j : Int} {i B : Nat} {w w' : World} {v : Value} (h : NP j i w v) (k : Kt [5] B w w') (f : Fz w w') : NP j i w' v := by
 unfold NP at h ⊢
 split at h
 ·exact PZ.fz h f
 ·exact PZ.fz h f
 ·exact PZ.fz h f
 ·obtain ⟨p, a, b, c⟩ := h; exact ⟨p, a, b.fz f, c⟩
 ·obtain ⟨x, a, b⟩ := h; exact ⟨x, a, b.fz f⟩
 ·obtain ⟨x, g, a, b, c⟩ := h; exact ⟨x, g, a, b.fz f, k.bk c (by decide)⟩
 exact trivial
structure NS (w0 : World) (R : Value) (xs : List Ak) (j : Int) (l : Array Bool) (f : Nat → Value) (w : World) : Prop where
 ex : Ex w0 w
 got : l.getD 26 false = false → ∀ i, l.getD i false = true → NP j i w (f i)
 lit : l.getD 20 false = false → l.getD 19 false = true → ∃ g, f 19 = .slice (some ⟨g, 0, none⟩) 1 1 ∧ w0.heap.size ≤ g ∧ Bk w g 5 #[.int .u8 115]
 row : l.getD 26 false = false → AkR w w0.heap.size R xs
 app : l.getD 26 false = true → ∃ x, AkR w w0.heap.size (f 26) (xs ++ [x])
section
variable {w0 w w' : World} {R v : Value} {xs : List Ak} {j : Int} {l : Array Bool} {f : Nat → Value}
theorem NS.next (h : NS w0 R xs j l f w) {i : Nat} (h26 : i ≠ 26) (h19 : i ≠ 19) (h20 : i ≠ 20) (k : Ex w w') (hv : NP j i w' v) : NS w0 R xs j (l.setIfInBounds i true) (upd f i v) w' := by
 refine ⟨h.ex.trans k, fun e i' hi' => ?_, fun e e2 => ?_, fun e => ?_, fun e => ?_⟩
 ·rw [gset h26] at e
  by_cases q : i = i'
  ·subst q; rw [upd_same]; exact hv
  rw [upd_ne _ _ (Ne.symm q)]; rw [gset q] at hi'; exact (h.got e i' hi').ext k
 ·rw [gset h20] at e
  rw [gset h19] at e2
  rw [upd_ne _ _ (Ne.symm h19)]
  obtain ⟨g, a, b, c⟩ := h.lit e e2
  exact ⟨g, a, b, c.ext k⟩
 ·rw [gset h26] at e; exact (h.row e).ext k
 rw [gset h26] at e
 rw [upd_ne _ _ (Ne.symm h26)]
 obtain ⟨x, hx⟩ := h.app e
 exact ⟨x, hx.ext k⟩
theorem NS.bytes (h : NS w0 R xs j l f w) (k : Ex w w') {g : Nat} (hg : w0.heap.size ≤ g) (hb : Bk w' g 5 #[.int .u8 115]) : NS w0 R xs j (l.setIfInBounds 19 true) (upd f 19 (.slice (some ⟨g, 0, none⟩) 1 1)) w' := by
 refine ⟨h.ex.trans k, fun e i' hi' => ?_, fun e e2 => ⟨g, upd_same _ _ _, hg, hb⟩, fun e => ?_, fun e => ?_⟩
 ·rw [gset (by decide)] at e
  by_cases q : 19 = i'
  ·subst q; exact trivial
  rw [upd_ne _ _ (Ne.symm q)]; rw [gset q] at hi'; exact (h.got e i' hi').ext k
 ·rw [gset (by decide)] at e; exact (h.row e).ext k
 rw [gset (by decide)] at e
 rw [upd_ne _ _ (by decide)]
 obtain ⟨x, hx⟩ := h.app e
 exact ⟨x, hx.ext k⟩
theorem NS.frz (h : NS w0 R xs j l f w) (hsz : 20 < l.size) {g : Nat} {fr : Nat × Nat} (hg : w0.heap.size ≤ g) (hb : Bk w g 5 #[.int .u8 115]) (hb' : w'.heap[g]? = some (.cells #[.int .u8 115] 5 fr)) (k : w.grownBy w' (some g)) : NS w0 R xs j (l.setIfInBounds 20 true) (upd f 20 (.slice (some ⟨g, 0, none⟩) 1 1)) w' := by
 have kt : Kt [5] w0.heap.size w w' := kt_of hb k hg h.ex.size
 have fz : Fz w w' := fz_of hb hb' k
 refine ⟨(show Ex w0 w' from Below.trans (show Below w0.heap.size w0 w from h.ex) kt.below), fun e i' hi' => ?_, fun e => ?_, fun e => ?_, fun e => ?_⟩
 ·rw [gset (by decide)] at e
  by_cases q : 20 = i'
  ·subst q; rw [upd_same]; exact ⟨_, rfl, sn_lit (l := [115]) hb', (by show 1 ≤ 100; decide)⟩
  rw [upd_ne _ _ (Ne.symm q)]; rw [gset q] at hi'; exact (h.got e i' hi').fz kt fz
 ·rw [set_new hsz] at e; cases e
 ·rw [gset (by decide)] at e; exact (h.row e).fz kt fz
 rw [gset (by decide)] at e
 rw [upd_ne _ _ (by decide)]
 obtain ⟨x, hx⟩ := h.app e
 exact ⟨x, hx.fz kt fz⟩
theorem NS.add (h : NS w0 R xs j l f w) (n26 : l.getD 26 false = false) (hsz : 26 < l.size) {x : Ak} (hx : AkN w x) (k : Kt [33] w0.heap.size w w') (hr : w'.ownsRow w0.heap.size 33 30 v (xs.length + 1) (xs.flatMap Ak.C ++ x.C)) : NS w0 R xs j (l.setIfInBounds 26 true) (upd f 26 v) w' := by
 refine ⟨(show Ex w0 w' from Below.trans (show Below w0.heap.size w0 w from h.ex) k.below), fun e => ?_, fun e e2 => ?_, fun e => ?_, fun _ => ⟨x, by rw [upd_same]; exact (h.row n26).app k hr hx⟩⟩
 ·rw [set_new hsz] at e; cases e
 ·rw [gset (by decide)] at e e2
  rw [upd_ne _ _ (by decide)]
  obtain ⟨g, a, b, c⟩ := h.lit e e2
  exact ⟨g, a, b, k.bk c (by decide)⟩
 rw [set_new hsz] at e; cases e
end
end Go.Proofs.Ytopamplmpfndlaa.Cl
namespace Go.Proofs.Ytopamplmpfndlaa.Cl
open Go.RowKit
theorem akn_of {w : World} {a b c d e f g h j : Int} {s : ByteArray} {p q r : Pt} (h1 : i64 a) (h2 : i64 b) (h3 : i64 c) (h4 : i64 d) (h5 : i64 e) (h6 : i64 f) (h7 : i64 g) (h8 : i64 h) (h9 : i64 j) (hs : s.size ≤ 100) (p1 : SN9 w p) (q1 : SN9 w q) (r1 : SN9 w r) (p2 : p.l.length ≤ 100) (q2 : q.l.length ≤ 100) (r2 : r.l.length ≤ 100) : AkN w ⟨a, b, c, d, e, f, g, h, s, p, RJ j q, r, zeroWk⟩ :=
 ⟨⟨h1, h2, h3, h4, h5, h6, h7, h8, Nat.le_trans hs (by decide), p1.1, Nat.le_trans p2 (by decide), ⟨⟨by show _ ≤ (0 : Int); decide, by show (0 : Int) ≤ _; decide, rfl, by show (0 : Int) ≤ 0; decide, by show (0 : Int) < _; decide, h9.1, h9.2, by show _ ≤ (0 : Int); decide, by show (0 : Int) ≤ _; decide, by show (0 : Int) ≤ 0; decide, by show (0 : Int) < _; decide⟩, q1.1⟩, Nat.le_trans q2 (by decide), r1.1, Nat.le_trans r2 (by decide), ⟨⟨by show _ ≤ (0 : Int); decide, by show (0 : Int) ≤ _; decide, rfl, by show _ ≤ (0 : Int); decide, by show (0 : Int) ≤ _; decide, by show (0 : Nat) ≤ _; decide, by show (0 : Nat) ≤ _; decide, by show (0 : Nat) ≤ _; decide⟩, nilB_in _ _⟩⟩, p1, q1, r1, rfl⟩
def NQ (w0 : World) (R : Value) (xs : List Ak) (j : Int) (l : Array Bool) (f : Nat → Value) (w : World) : Prop := NS w0 R xs j l f w ∧ (l.getD 27 false = true → f 27 = f 26)
section
variable {w0 w w' : World} {R v : Value} {xs : List Ak} {j : Int} {l : Array Bool} {f : Nat → Value}
theorem NQ.on (h : NQ w0 R xs j l f w) {i : Nat} (h26 : i ≠ 26) (h27 : i ≠ 27) (k : NS w0 R xs j (l.setIfInBounds i true) (upd f i v) w') : NQ w0 R xs j (l.setIfInBounds i true) (upd f i v) w' :=
 ⟨k, fun e => by rw [gset h27] at e; rw [upd_ne _ _ (Ne.symm h27), upd_ne _ _ (Ne.symm h26)]; exact h.2 e⟩
theorem NQ.add (h : NQ w0 R xs j l f w) (n27 : l.getD 27 false = false) (k : NS w0 R xs j (l.setIfInBounds 26 true) (upd f 26 v) w') : NQ w0 R xs j (l.setIfInBounds 26 true) (upd f 26 v) w' :=
 ⟨k, fun e => by rw [gset (by decide), n27] at e; cases e⟩
theorem NQ.put (h : NQ w0 R xs j l f w) : NQ w0 R xs j (l.setIfInBounds 27 true) (upd f 27 (f 26)) w :=
 ⟨h.1.next (by decide) (by decide) (by decide) (Ex.refl _) trivial, fun _ => by rw [upd_same, upd_ne _ _ (by decide)]⟩
end
theorem numbers22_any (w : World) : Calls Try.prog 3 #[] w fun e w' => e = .returned (.bool true) ∧ Ex w w' := by
 go_enter Try.func3, Try.ntmps3
 go_wp2_with fail
 go_loopw [1] (fun n wq => ∃ z : Int, -1 ≤ z ∧ z ≤ 6 ∧ n = .int .i64 z ∧ Hid (Ex w wq)) (fun n _ => (6 - intOf n).toNat)
 case atStart => exact ⟨-1, by omega, by omega, rfl, Hi (Ex.refl _)⟩
 case round =>
  obtain ⟨z, z0, z1, rfl, BX⟩ := hrel
  obtain ⟨wo, rfl⟩ : ∃ u : World, u = wr := ⟨_, rfl⟩
  by_cases hlt : z < 6
  ·skip
   go_wp2_with fail
   go_loopw [2, 3] (fun v i wq => ∃ (vv : Value) (k : Nat) (l : List Ak), vv = v ∧ k ≤ 50 ∧ i = .int .i64 k ∧ Hid (AkR wq wo.heap.size v l ∧ l.length = k) ∧ Hid (Ex wo wq)) (fun _ i _ => 50 - (intOf i).toNat)
   case atStart => exact ⟨_, 0, [], rfl, by omega, rfl, Hi ⟨AkR.nil _ _, rfl⟩, Hi (Ex.refl _)⟩
   case round =>
    obtain ⟨v, k, l, hv0, hk, rfl, VR, BQ⟩ := hrel
    subst hv0
    by_cases hk5 : k < 50
    ·have q0 : (0 : Int) ≤ (k : Int) := by omega
     have q1 : (k : Int) < 50 := by omega
     obtain ⟨ra, hra⟩ : ∃ r : Nat, r = k % 7 := ⟨_, rfl⟩
     have tra : (k : Int).tmod 7 = (ra : Int) := by rw [Int.tmod_eq_emod_of_nonneg q0, hra]; omega
     have bra : ra < 7 := by omega
     clear hra
     obtain ⟨rb, hrb⟩ : ∃ r : Nat, r = k % 10 := ⟨_, rfl⟩
     have trb : (k : Int).tmod 10 = (rb : Int) := by rw [Int.tmod_eq_emod_of_nonneg q0, hrb]; omega
     have brb : rb < 10 := by omega
     clear hrb
     obtain ⟨rc, hrc⟩ : ∃ r : Nat, r = k % 14 := ⟨_, rfl⟩
     have trc : (k : Int).tmod 14 = (rc : Int) := by rw [Int.tmod_eq_emod_of_nonneg q0, hrc]; omega
     have brc : rc < 14 := by omega
     clear hrc
     obtain ⟨rd, hrd⟩ : ∃ r : Nat, r = k % 35 := ⟨_, rfl⟩
     have trd : (k : Int).tmod 35 = (rd : Int) := by rw [Int.tmod_eq_emod_of_nonneg q0, hrd]; omega
     have brd : rd < 35 := by omega
     clear hrd
     obtain ⟨re, hre⟩ : ∃ r : Nat, r = k * 3 % 6 := ⟨_, rfl⟩
     have tre : ((k : Int) * 3).tmod 6 = (re : Int) := by rw [Int.tmod_eq_emod_of_nonneg (by omega), hre]; omega
     have bre : re < 6 := by omega
     clear hre
     obtain ⟨rf, hrf⟩ : ∃ r : Nat, r = k / 3 := ⟨_, rfl⟩
     have trf : (k : Int).tdiv 3 = (rf : Int) := by rw [Int.tdiv_eq_ediv_of_nonneg q0, hrf]; omega
     have brf : rf < 50 := by omega
     clear hrf
     have hl50 : l.length ≤ 50 := by have := VR.out.2; omega
     go_wp2_with fail
     have hS0 : ∀ (listed : Array Bool) (f : Nat → Value), (∀ i, listed.getD i false = false) → (NQ wo v l (k : Int)) listed f wr.drew := fun listed f h0 => ⟨⟨BQ.out.trans (ex_drewN wr 1), fun _ i e => absurd e (by rw [h0]; decide), fun _ e => absurd e (by rw [h0]; decide), fun _ => VR.out.1.ext (ex_drewN wr 1), fun e => absurd e (by rw [h0]; decide)⟩, fun e => absurd e (by rw [h0]; decide)⟩
     obtain ⟨T, hT⟩ : ∃ T : List (Value → Prop), T = [(fun zz => zz = v), (fun zz => zz = .int .i64 (k : Int)), (fun zz => zz = .int .i64 (ra : Int)), (fun zz => zz = .int .i64 (k : Int)), (fun zz => zz = .int .i64 (rf : Int)), (fun zz => zz = .int .i64 (k : Int)), (fun zz => zz = .int .i64 (rb : Int)), (fun zz => zz = .int .i64 (k : Int)), (fun zz => zz = .int .i64 (rc : Int)), (fun zz => zz = .int .i64 (k : Int)), (fun zz => zz = .int .i64 ((k : Int) * 3)), (fun zz => zz = .int .i64 (re : Int)), (fun zz => zz = .int .i64 (k : Int)), (fun zz => zz = .int .i64 (k : Int)), (fun zz => zz = .int .i64 (k : Int)), (fun zz => zz = .int .i64 (rd : Int)), (fun zz => zz = .int .i64 (k : Int)), (fun _ => True), (fun zz => zz = .int .i64 (k : Int)), (fun _ => True), (fun _ => True), (fun _ => True), (fun zz => zz = .int .i64 (k : Int)), (fun _ => True), (fun _ => True), (fun _ => True), (fun _ => True), (fun _ => True)] := ⟨_, rfl⟩
     refine wp_region_gen (JS T ([(27, 26), (26, 25), (25, 24), (24, 21), (21, 20)] : List (Nat × Nat)) (NQ wo v l (k : Int))) (by kernel_rfl) (by kernel_rfl) (by kernel_rfl) (fitB_spec (by kernel_rfl)) (fun listed f h => JS.start listed f h (hS0 listed f h)) ?_ ?_
     ·intro i o ho
      have hi : i < 28 := (Array.getElem?_eq_some_iff.1 ho).1
      have hi' : i = 0 ∨ i = 1 ∨ i = 2 ∨ i = 3 ∨ i = 4 ∨ i = 5 ∨ i = 6 ∨ i = 7 ∨ i = 8 ∨ i = 9 ∨ i = 10 ∨ i = 11 ∨ i = 12 ∨ i = 13 ∨ i = 14 ∨ i = 15 ∨ i = 16 ∨ i = 17 ∨ i = 18 ∨ i = 19 ∨ i = 20 ∨ i = 21 ∨ i = 22 ∨ i = 23 ∨ i = 24 ∨ i = 25 ∨ i = 26 ∨ i = 27 := by omega
      clear hi
      rcases hi' with rfl | rfl | rfl | rfl | rfl | rfl | rfl | rfl | rfl | rfl | rfl | rfl | rfl | rfl | rfl | rfl | rfl | rfl | rfl | rfl | rfl | rfl | rfl | rfl | rfl | rfl | rfl | rfl
      all_goals (simp only [List.getElem?_toArray, List.getElem?_cons_zero, List.getElem?_cons_succ, Option.some.injEq] at ho; subst ho; intro listed f a w2 hJ hsz hls hun hdep hout hlat; first | (rw [if_pos (by rfl)]; intro K hK) | skip)
      ·have q2 := hlat 2 27 _ rfl rfl ⟨⟨0, .phase⟩, by simp, rfl, rfl⟩
       exact wp_mw _ rfl q2 (hK _ _ (hJ.nx hls hT rfl rfl (hJ.st.on (by decide) (by decide) (hJ.st.1.next (by decide) (by decide) (by decide) (Ex.refl _) trivial)) nh))
      ·have q3 := hout 3 ob
       exact wp_mw _ rfl q3 (hK _ _ (hJ.nx hls hT rfl rfl (hJ.st.on (by decide) (by decide) (hJ.st.1.next (by decide) (by decide) (by decide) (Ex.refl _) trivial)) nh))
      ·have q13 := hJ.iq hT (hdep ⟨1, .data⟩ (by simp) rfl) rfl _ rfl _ rfl
       clear hsz hdep hout hlat
       go_simp
       exact hK _ _ (hJ.na hls hT (hJ.st.on (by decide) (by decide) (hJ.st.1.next (by decide) (by decide) (by decide) (Ex.refl _) trivial)))
      ·have q3 := hout 3 ob
       exact wp_mw _ rfl q3 (hK _ _ (hJ.nx hls hT rfl rfl (hJ.st.on (by decide) (by decide) (hJ.st.1.next (by decide) (by decide) (by decide) (Ex.refl _) trivial)) nh))
      ·have q15 := hJ.iq hT (hdep ⟨3, .data⟩ (by simp) rfl) rfl _ rfl _ rfl
       clear hsz hdep hout hlat
       go_simp
       exact hK _ _ (hJ.na hls hT (hJ.st.on (by decide) (by decide) (hJ.st.1.next (by decide) (by decide) (by decide) (Ex.refl _) trivial)))
      ·have q3 := hout 3 ob
       exact wp_mw _ rfl q3 (hK _ _ (hJ.nx hls hT rfl rfl (hJ.st.on (by decide) (by decide) (hJ.st.1.next (by decide) (by decide) (by decide) (Ex.refl _) trivial)) nh))
      ·have q17 := hJ.iq hT (hdep ⟨5, .data⟩ (by simp) rfl) rfl _ rfl _ rfl
       clear hsz hdep hout hlat
       go_simp
       exact hK _ _ (hJ.na hls hT (hJ.st.on (by decide) (by decide) (hJ.st.1.next (by decide) (by decide) (by decide) (Ex.refl _) trivial)))
      ·have q3 := hout 3 ob
       exact wp_mw _ rfl q3 (hK _ _ (hJ.nx hls hT rfl rfl (hJ.st.on (by decide) (by decide) (hJ.st.1.next (by decide) (by decide) (by decide) (Ex.refl _) trivial)) nh))
      ·have q19 := hJ.iq hT (hdep ⟨7, .data⟩ (by simp) rfl) rfl _ rfl _ rfl
       clear hsz hdep hout hlat
       go_simp
       exact hK _ _ (hJ.na hls hT (hJ.st.on (by decide) (by decide) (hJ.st.1.next (by decide) (by decide) (by decide) (Ex.refl _) trivial)))
      ·have q3 := hout 3 ob
       exact wp_mw _ rfl q3 (hK _ _ (hJ.nx hls hT rfl rfl (hJ.st.on (by decide) (by decide) (hJ.st.1.next (by decide) (by decide) (by decide) (Ex.refl _) trivial)) nh))
      ·have q21 := hJ.iq hT (hdep ⟨9, .data⟩ (by simp) rfl) rfl _ rfl _ rfl
       clear hsz hdep hout hlat
       go_simp
       exact hK _ _ (hJ.na hls hT (hJ.st.on (by decide) (by decide) (hJ.st.1.next (by decide) (by decide) (by decide) (Ex.refl _) trivial)))
      ·have q22 := hJ.iq hT (hdep ⟨10, .data⟩ (by simp) rfl) rfl _ rfl _ rfl
       clear hsz hdep hout hlat
       go_simp
       exact hK _ _ (hJ.na hls hT (hJ.st.on (by decide) (by decide) (hJ.st.1.next (by decide) (by decide) (by decide) (Ex.refl _) trivial)))
      iterate 3
       focus
        have q3 := hout 3 ob
        exact wp_mw _ rfl q3 (hK _ _ (hJ.nx hls hT rfl rfl (hJ.st.on (by decide) (by decide) (hJ.st.1.next (by decide) (by decide) (by decide) (Ex.refl _) trivial)) nh))
      ·have q26 := hJ.iq hT (hdep ⟨14, .data⟩ (by simp) rfl) rfl _ rfl _ rfl
       clear hsz hdep hout hlat
       go_simp
       exact hK _ _ (hJ.na hls hT (hJ.st.on (by decide) (by decide) (hJ.st.1.next (by decide) (by decide) (by decide) (Ex.refl _) trivial)))
      ·have q3 := hout 3 ob
       exact wp_mw _ rfl q3 (hK _ _ (hJ.nx hls hT rfl rfl (hJ.st.on (by decide) (by decide) (hJ.st.1.next (by decide) (by decide) (by decide) (Ex.refl _) trivial)) nh))
      ·have q28 := hJ.is hT (hdep ⟨16, .data⟩ (by simp) rfl) rfl _ rfl _ rfl
       refine wp_mkP (.tmp 28) (.tmp 28) rfl k q28 q28 (by omega) (fun w9 hm x9 => ?_)
       exact hK _ _ (hJ.nx hls hT rfl (by exact trivial) (hJ.st.on (by decide) (by decide) (hJ.st.1.next (by decide) (by decide) (by decide) x9 (PZ.many hm (by omega)))) nh)
      ·have q3 := hout 3 ob
       exact wp_mw _ rfl q3 (hK _ _ (hJ.nx hls hT rfl rfl (hJ.st.on (by decide) (by decide) (hJ.st.1.next (by decide) (by decide) (by decide) (Ex.refl _) trivial)) nh))
      ·have hb9 := hJ.st.1.ex.size
       clear hsz hdep hout hlat
       go_simp
       exact hK _ _ (hJ.nx hls hT rfl (by exact trivial) (hJ.st.on (by decide) (by decide) (hJ.st.1.bytes (Ex.alloc _ _) hb9 (Bk.new rfl _ _))) nh)
      ·have dd31 := hdep ⟨19, .data⟩ (by simp) rfl
       have q31 := dd31.2 _ rfl _ rfl
       have n21 := unq hJ.ord 21 20 hun
       have n24 : listed.getD 24 false = false := by
        cases hc : listed.getD 24 false with
        | false => rfl
        | true => exact absurd (hJ.ord (24, 21) (by simp) hc) (by rw [n21]; decide)
       have n25 : listed.getD 25 false = false := by
        cases hc : listed.getD 25 false with
        | false => rfl
        | true => exact absurd (hJ.ord (25, 24) (by simp) hc) (by rw [n24]; decide)
       have n26 : listed.getD 26 false = false := by
        cases hc : listed.getD 26 false with
        | false => rfl
        | true => exact absurd (hJ.ord (26, 25) (by simp) hc) (by rw [n25]; decide)
       have l19 := (hdep ⟨19, .data⟩ (by simp) rfl).1
       obtain ⟨g9, e9, hg9, hb9⟩ := hJ.st.1.lit hun l19
       rw [e9] at q31
       refine wp_frz (.tmp 31) rfl g9 [115] q31 hb9 (fun w9 h9 k9 => ?_)
       exact hK _ _ (hJ.nx hls hT rfl (by exact trivial) (hJ.st.on (by decide) (by decide) (hJ.st.1.frz (by rw [hls]; decide) hg9 hb9 h9 k9)) nh)
      ·have q30 := hJ.is hT (hdep ⟨18, .data⟩ (by simp) rfl) rfl _ rfl _ rfl
       have dd32 := hdep ⟨20, .data⟩ (by simp) rfl
       have q32 := dd32.2 _ rfl _ rfl
       have hl20 := (hdep ⟨20, .data⟩ (by simp) rfl).1
       have hord : ∀ x ∈ ([(27, 26), (26, 25), (25, 24), (24, 21), (21, 20)] : List (Nat × Nat)), x.1 = 21 → listed.getD x.2 false = true := (by intro x hx he; simp only [List.mem_cons, List.not_mem_nil, or_false] at hx; rcases hx with rfl | rfl | rfl | rfl | rfl; all_goals first | (exact absurd he (by decide)) | assumption)
       have n24 := unq hJ.ord 24 21 hun
       have n25 : listed.getD 25 false = false := by
        cases hc : listed.getD 25 false with
        | false => rfl
        | true => exact absurd (hJ.ord (25, 24) (by simp) hc) (by rw [n24]; decide)
       have n26 : listed.getD 26 false = false := by
        cases hc : listed.getD 26 false with
        | false => rfl
        | true => exact absurd (hJ.ord (26, 25) (by simp) hc) (by rw [n25]; decide)
       have l20 := (hdep ⟨20, .data⟩ (by simp) rfl).1
       obtain ⟨p9, e9, s9, c9⟩ := (hJ.st.1.got n26 20 l20 : PZ w2 (f 20))
       rw [e9] at q32
       refine wp_build _ _ rfl (RJ (k : Int) p9).C.toArray ?_ ?_
       ·show Try.prog.built 29 [(3, a.tmps.getD 30 undef), (4, a.tmps.getD 32 undef)] = _
        rw [q30, q32]
        exact built_rj _ _
       ·exact hK _ _ (hJ.nx hls hT rfl (by exact trivial) (hJ.st.on (by decide) (by decide) (hJ.st.1.next (by decide) (by decide) (by decide) (Ex.refl _) ⟨p9, rfl, s9, c9⟩)) hord)
      ·have q3 := hout 3 ob
       exact wp_mw _ rfl q3 (hK _ _ (hJ.nx hls hT rfl rfl (hJ.st.on (by decide) (by decide) (hJ.st.1.next (by decide) (by decide) (by decide) (Ex.refl _) trivial)) nh))
      ·have q34 := hJ.is hT (hdep ⟨22, .data⟩ (by simp) rfl) rfl _ rfl _ rfl
       refine wp_mkP (.tmp 34) (.tmp 34) rfl k q34 q34 (by omega) (fun w9 hm x9 => ?_)
       exact hK _ _ (hJ.nx hls hT rfl (by exact trivial) (hJ.st.on (by decide) (by decide) (hJ.st.1.next (by decide) (by decide) (by decide) x9 (PZ.many hm (by omega)))) nh)
      ·have q14 := hJ.is hT (hdep ⟨2, .data⟩ (by simp) rfl) rfl _ rfl _ rfl
       have q16 := hJ.is hT (hdep ⟨4, .data⟩ (by simp) rfl) rfl _ rfl _ rfl
       have q18 := hJ.is hT (hdep ⟨6, .data⟩ (by simp) rfl) rfl _ rfl _ rfl
       have q20 := hJ.is hT (hdep ⟨8, .data⟩ (by simp) rfl) rfl _ rfl _ rfl
       have q23 := hJ.is hT (hdep ⟨11, .data⟩ (by simp) rfl) rfl _ rfl _ rfl
       have q24 := hJ.is hT (hdep ⟨12, .data⟩ (by simp) rfl) rfl _ rfl _ rfl
       have q25 := hJ.is hT (hdep ⟨13, .data⟩ (by simp) rfl) rfl _ rfl _ rfl
       have q27 := hJ.is hT (hdep ⟨15, .data⟩ (by simp) rfl) rfl _ rfl _ rfl
       have dd29 := hdep ⟨17, .data⟩ (by simp) rfl
       have q29 := dd29.2 _ rfl _ rfl
       have dd33 := hdep ⟨21, .data⟩ (by simp) rfl
       have q33 := dd33.2 _ rfl _ rfl
       have dd35 := hdep ⟨23, .data⟩ (by simp) rfl
       have q35 := dd35.2 _ rfl _ rfl
       have hl21 := (hdep ⟨21, .data⟩ (by simp) rfl).1
       have hord : ∀ x ∈ ([(27, 26), (26, 25), (25, 24), (24, 21), (21, 20)] : List (Nat × Nat)), x.1 = 24 → listed.getD x.2 false = true := (by intro x hx he; simp only [List.mem_cons, List.not_mem_nil, or_false] at hx; rcases hx with rfl | rfl | rfl | rfl | rfl; all_goals first | (exact absurd he (by decide)) | assumption)
       have n25 := unq hJ.ord 25 24 hun
       have n26 : listed.getD 26 false = false := by
        cases hc : listed.getD 26 false with
        | false => rfl
        | true => exact absurd (hJ.ord (26, 25) (by simp) hc) (by rw [n25]; decide)
       have l17 := (hdep ⟨17, .data⟩ (by simp) rfl).1
       have l21 := (hdep ⟨21, .data⟩ (by simp) rfl).1
       have l23 := (hdep ⟨23, .data⟩ (by simp) rfl).1
       obtain ⟨p1, e1, s1, c1⟩ := (hJ.st.1.got n26 17 l17 : PZ w2 (f 17))
       obtain ⟨p2, e2, s2, c2⟩ := (hJ.st.1.got n26 21 l21 : ∃ p : Pt, f 21 = (RJ (k : Int) p).V ∧ SN9 w2 p ∧ p.l.length ≤ 100)
       obtain ⟨p3, e3, s3, c3⟩ := (hJ.st.1.got n26 23 l23 : PZ w2 (f 23))
       rw [e1] at q29
       rw [e2] at q33
       rw [e3] at q35
       refine wp_build _ _ rfl (Ak.C ⟨(ra : Int), (rf : Int), (rb : Int), (rc : Int), (re : Int), (k : Int), (k : Int), (rd : Int), ⟨#[97, 110, 110]⟩, p1, RJ (k : Int) p2, p3, zeroWk⟩).toArray ?_ ?_
       ·show Try.prog.built 33 [(0, a.tmps.getD 14 undef), (1, a.tmps.getD 16 undef), (2, a.tmps.getD 18 undef), (3, a.tmps.getD 20 undef), (4, a.tmps.getD 23 undef), (5, a.tmps.getD 24 undef), (6, a.tmps.getD 25 undef), (7, a.tmps.getD 27 undef), (8, _), (9, a.tmps.getD 29 undef), (10, a.tmps.getD 33 undef), (11, a.tmps.getD 35 undef)] = _
        rw [q14, q16, q18, q20, q23, q24, q25, q27, q29, q33, q35]
        exact built_akj _ _ _ _ _ _ _ _ _ _ _ _ _
       ·exact hK _ _ (hJ.nx hls hT rfl (by exact trivial) (hJ.st.on (by decide) (by decide) (hJ.st.1.next (by decide) (by decide) (by decide) (Ex.refl _) ⟨_, rfl, akn_of (by unfold i64; omega) (by unfold i64; omega) (by unfold i64; omega) (by unfold i64; omega) (by unfold i64; omega) (by unfold i64; omega) (by unfold i64; omega) (by unfold i64; omega) (by unfold i64; omega) (by decide) s1 s2 s3 c1 c2 c3⟩)) hord)
      ·have dd36 := hdep ⟨24, .data⟩ (by simp) rfl
       have q36 := dd36.2 _ rfl _ rfl
       have hl24 := (hdep ⟨24, .data⟩ (by simp) rfl).1
       have hord : ∀ x ∈ ([(27, 26), (26, 25), (25, 24), (24, 21), (21, 20)] : List (Nat × Nat)), x.1 = 25 → listed.getD x.2 false = true := (by intro x hx he; simp only [List.mem_cons, List.not_mem_nil, or_false] at hx; rcases hx with rfl | rfl | rfl | rfl | rfl; all_goals first | (exact absurd he (by decide)) | assumption)
       have n26 := unq hJ.ord 26 25 hun
       have l24 := (hdep ⟨24, .data⟩ (by simp) rfl).1
       obtain ⟨x9, e9, a9⟩ := (hJ.st.1.got n26 24 l24 : ∃ x : Ak, f 24 = x.V ∧ AkN w2 x)
       rw [e9] at q36
       refine wp_bs1 22 33 zeroAk 30 280 (.tmp 36) x9.C rfl Try.underlying22 Try.infoAk rfl (by decide) (by decide) (Ak.len a9.ai) q36 ?_
       exact hK _ _ (hJ.nx hls hT rfl (by exact trivial) (hJ.st.on (by decide) (by decide) (hJ.st.1.next (by decide) (by decide) (by decide) (Ex.alloc _ _) ⟨x9, _, rfl, a9.ext (Ex.alloc _ _), Bk.new rfl _ _⟩)) hord)
      ·have q12 := hJ.is hT (hdep ⟨0, .data⟩ (by simp) rfl) rfl _ rfl _ rfl
       have dd37 := hdep ⟨25, .data⟩ (by simp) rfl
       have q37 := dd37.2 _ rfl _ rfl
       have hl25 := (hdep ⟨25, .data⟩ (by simp) rfl).1
       have hord : ∀ x ∈ ([(27, 26), (26, 25), (25, 24), (24, 21), (21, 20)] : List (Nat × Nat)), x.1 = 26 → listed.getD x.2 false = true := (by intro x hx he; simp only [List.mem_cons, List.not_mem_nil, or_false] at hx; rcases hx with rfl | rfl | rfl | rfl | rfl; all_goals first | (exact absurd he (by decide)) | assumption)
       have n27 := unq hJ.ord 27 26 hun
       have l25 := (hdep ⟨25, .data⟩ (by simp) rfl).1
       have row9 := hJ.st.1.row hun
       have sz9 := hJ.st.1.ex.size
       obtain ⟨x9, g9, e9, a9, b9⟩ := (hJ.st.1.got hun 25 l25 : ∃ (x : Ak) (g : Nat), f 25 = .slice (some ⟨g, 0, none⟩) 1 1 ∧ AkN w2 x ∧ Bk w2 g 33 x.C.toArray)
       rw [e9] at q37
       obtain ⟨adx, ex9, nx, rx⟩ := Many.rd (n := 1) (sz := 30) ⟨g9, rfl, b9⟩ (Ak.len a9.ai)
       cases ex9
       refine wp_rd (.tmp 12) (.tmp 37) 22 33 zeroAk 30 280 rfl Try.underlying22 Try.infoAk rfl (by decide) wo.heap.size l.length v _ q12 row9.row sz9 _ 1 1 _ q37 rx (Nat.le_refl _) (fun h => by cases h) (Ak.C_one x9) (by omega) (by omega) (fun v9 w9 r1 r2 => ?_)
       exact hK _ _ (hJ.nx hls hT rfl (by exact trivial) (hJ.st.add n27 (hJ.st.1.add hun (by rw [hls]; decide) a9 r2 r1)) hord)
      ·have dd38 := hdep ⟨26, .data⟩ (by simp) rfl
       have q38 := dd38.2 _ rfl _ rfl
       have hl26 := (hdep ⟨26, .data⟩ (by simp) rfl).1
       have hord : ∀ x ∈ ([(27, 26), (26, 25), (25, 24), (24, 21), (21, 20)] : List (Nat × Nat)), x.1 = 27 → listed.getD x.2 false = true := (by intro x hx he; simp only [List.mem_cons, List.not_mem_nil, or_false] at hx; rcases hx with rfl | rfl | rfl | rfl | rfl; all_goals first | (exact absurd he (by decide)) | assumption)
       refine wp_asg9 _ rfl (hK _ _ ?_)
       rw [show a.eval (.tmp 38) = f 26 from q38]
       exact hJ.nx hls hT rfl (by exact trivial) hJ.st.put hord
     ·intro listed f w2 hall hJ
      have hst := hJ.st
      simp only [putAll, Act.put, List.setIfInBounds_toArray, List.set_cons_zero, List.set_cons_succ, Nat.zero_add, Nat.reduceAdd]
      obtain ⟨x, hx⟩ := hst.1.app (hall 26 (by simp))
      have e27 := hst.2 (hall 27 (by simp))
      have x9 := hst.1.ex
      rw [e27]
      have VR2 : Hid (AkR w2 wo.heap.size (f 26) (l ++ [x]) ∧ (l ++ [x]).length = k + 1) := Hi ⟨hx, by rw [List.length_append, VR.out.2]; rfl⟩
      have BQ2 := Hi x9
      clear hst hS0 e27 x9 hx VR BQ
      clear hJ hall hT
      generalize f 0 = y0
      generalize f 1 = y1
      generalize f 2 = y2
      generalize f 3 = y3
      generalize f 4 = y4
      generalize f 5 = y5
      generalize f 6 = y6
      generalize f 7 = y7
      generalize f 8 = y8
      generalize f 9 = y9
      generalize f 10 = y10
      generalize f 11 = y11
      generalize f 12 = y12
      generalize f 13 = y13
      generalize f 14 = y14
      generalize f 15 = y15
      generalize f 16 = y16
      generalize f 17 = y17
      generalize f 18 = y18
      generalize f 19 = y19
      generalize f 20 = y20
      generalize f 21 = y21
      generalize f 22 = y22
      generalize f 23 = y23
      generalize f 24 = y24
      generalize f 25 = y25
      generalize f 26 = v26 at *
      go_wp2_with fail
      go_roundw
      case rel => exact ⟨_, k + 1, l ++ [x], rfl, by omega, by go_num, VR2, BQ2⟩
      case measure => simp [intOf]; omega
    ·obtain rfl : k = 50 := by omega
     obtain ⟨ad, cap, hv, hin⟩ := VR.out.1.akp
     have HL50 : Hid (l.length = 50) := Hi VR.out.2
     have HIN := Hi hin
     rw [hv, HL50.out]
     clear hv hin VR
     go_wp2_with ((with_reducible refine s7b ?_ ?_); (focus rfl))
     refine at9 (by go_simp) fun K0 hK => wp_build _ _ rfl _ built_k22 (hK _ _ ?_)
     clear hK
     go_wp2_with fail
     have hp9 := play22_any z ⟨by omega, by omega⟩ K22 rfl ad cap l (by have := HL50.out; omega) _ HIN.out
     rw [HL50.out] at hp9
     refine hp9.mono ?_
     rintro e w4 ⟨rfl, x4⟩
     replace BQ := Hi (BQ.out.trans x4)
     clear x4 hp9
     go_wp2_with fail
     go_roundw
     case rel => exact ⟨z + 1, by omega, by omega, by go_num, Hi (BX.out.trans BQ.out)⟩
     case measure => simp [intOf]; omega
  ·obtain rfl : z = 6 := by omega
   go_wp2_with fail
   refine (known22_any _).mono ?_
   rintro e w2 ⟨rfl, x2⟩
   have Z := Hi (Ex.trans BX.out x2)
   clear x2
   go_wp2_with fail
   go_ret
   exact ⟨rfl, Z.out⟩
theorem numbers22_law (w : World) : Calls Try.prog 3 #[] w fun e w' => e = .returned (.bool true) ∧ Below w.heap.size w w' := numbers22_any w
end Go.Proofs.Ytopamplmpfndlaa.Cl
