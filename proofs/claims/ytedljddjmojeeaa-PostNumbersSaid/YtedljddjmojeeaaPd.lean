/- offices: Put, Double, Hold, Free, Take -/
import Derived.Test.YtedljddjmojeeaaPc
import Derived.Test.YtedljddjmojeeaaFlE
namespace Go.Proofs.Ytedljddjmojeeaa
open Go.RowKit
/-- what is not an office or its row is as it was -/
structure FT (O : Nat) (w w' : World) : Prop where
  below : Below O w w'
  typ : ∀ (h : Nat) (cs : Array Value) (t : TypeId) (fr : Nat × Nat), w.heap[h]? = some (.cells cs t fr) → t ≠ 20 → t ≠ 107 → w'.heap[h]? = some (.cells cs t fr)
  size : w.heap.size ≤ w'.heap.size
theorem FT.refl (O : Nat) (w : World) : FT O w w := ⟨Below.refl _ _, fun _ _ _ _ h _ _ => h, Nat.le_refl _⟩
theorem FT.trans {O : Nat} {a b c : World} (h : FT O a b) (k : FT O b c) : FT O a c := ⟨h.below.trans k.below, fun i cs t fr hi h1 h2 => k.typ i cs t fr (h.typ i cs t fr hi h1 h2) h1 h2, Nat.le_trans h.size k.size⟩
theorem heap_lt {w : World} {g : Nat} {o : Obj} (h : w.heap[g]? = some o) : g < w.heap.size := (Array.getElem?_eq_some_iff.1 h).1
theorem Ex.ft {O : Nat} {w w' : World} (h : Ex w w') (hO : O ≤ w.heap.size) : FT O w w' := ⟨h.mono hO, fun i cs t fr hi _ _ => (h.block i (heap_lt hi)).trans hi, h.sz⟩
theorem FT.md {O g : Nat} {w w' : World} {t : TypeId} {cs : Array Value} (k : Md g w w') (hg : O ≤ g) (hb : Bk w g t cs) (ht : t = 20 ∨ t = 107) : FT O w w' :=
  ⟨k.below O hg _ (Below.refl _ _), fun i cs' t' fr hi h1 h2 => by
    refine (k.other i ?_ (heap_lt hi)).trans hi
    intro e
    subst e
    unfold Bk at hb
    rw [hb] at hi
    injection hi with hi
    injection hi with _ hi
    rcases ht with rfl | rfl
    · exact h1 hi.symm
    · exact h2 hi.symm, k.size⟩
theorem PN.ft {w w' : World} {O lo : Nat} {p : Pt} (h : PN w lo p) (k : FT O w w') : PN w' lo p := by
  refine ⟨⟨h.1.cap, h.1.nil, fun h0 => ?_⟩, fun a e => ⟨(h.2 a e).1, (h.2 a e).2.elim fun cs hc => ⟨cs, k.typ _ _ _ _ hc (by decide) (by decide)⟩⟩⟩
  obtain ⟨a, o, e, hB, hc⟩ := h.1.read h0
  obtain ⟨_, cs, hb⟩ := h.2 _ e
  refine ⟨a, o, e, Nat.lt_of_lt_of_le hB k.size, fun i hi => ?_⟩
  rw [← hc i hi]
  have h2 := k.typ _ _ _ _ hb (by decide) (by decide)
  unfold Bk at hb
  simp only [World.cell?, h2, hb]
theorem LN.ft {w w' : World} {O lo : Nat} {v : Lt} (h : LN w lo v) (k : FT O w w') : LN w' lo v := ⟨h.1, h.2.ft k⟩
/-- the row's block -/
theorem OB.rowb {w : World} {O : Nat} {rv : Value} {ls : List (Bool × Lt)} (h : OB w O rv ls) : ∀ g, rv.ownBlock = some g → O + 1 ≤ g ∧ ∃ cs, Bk w g 20 cs := by
  intro g hg
  obtain ⟨h1, h2 | ⟨g', cap, cur, e, hb, hh, r⟩⟩ := h.row
  · rw [h2.1] at hg; cases hg
  · rw [e] at hg
    obtain rfl : g' = g := by simpa [Value.ownBlock] using hg
    exact ⟨hb, cur, hh⟩
theorem FT.grown {w w' : World} {O : Nat} {rv : Value} {ls : List (Bool × Lt)} (h : OB w O rv ls) (k : w.grownBy w' rv.ownBlock) : FT O w w' :=
  ⟨(Below.refl O w).grown k (Nat.le_of_lt h.blk.lt) (fun j hj => by have := (h.rowb j hj).1; omega), fun i cs t fr hi h1 h2 => by
    refine (k.block i (heap_lt hi) ?_).trans hi
    intro e
    obtain ⟨_, cs', hb⟩ := h.rowb i e.symm
    unfold Bk at hb
    rw [hb] at hi
    injection hi with hi
    injection hi with _ hi
    exact h1 hi.symm, k.size⟩
theorem row_only {w w' : World} {O : Nat} {rv : Value} {n : Nat} {xs : List Value} (h : w.ownsRow (O + 1) 20 1 rv n xs) (k : Only O w w') : w'.ownsRow (O + 1) 20 1 rv n xs := by
  obtain ⟨h1, h2 | ⟨g, cap, cur, e, hb, hh, r⟩⟩ := h
  · exact ⟨h1, .inl h2⟩
  · exact ⟨h1, .inr ⟨g, cap, cur, e, hb, (k.other g (by omega)).trans hh, r⟩⟩
theorem row_ext {w w' : World} {B : Nat} {rv : Value} {n : Nat} {xs : List Value} (h : w.ownsRow B 20 1 rv n xs) (k : Ex w w') : w'.ownsRow B 20 1 rv n xs := by
  obtain ⟨h1, h2 | ⟨g, cap, cur, e, hb, hh, r⟩⟩ := h
  · exact ⟨h1, .inl h2⟩
  · exact ⟨h1, .inr ⟨g, cap, cur, e, hb, (k.block g (heap_lt hh)).trans hh, r⟩⟩
def ctO (ls : List (Bool × Lt)) : List (Bool × Lc) := ls.map fun x => (x.1, x.2.ct)
/-- an office that has these -/
def OF (w : World) (O : Nat) (l : List (Bool × Lc)) : Prop := ∃ rv ls, OB w O rv ls ∧ ctO ls = l
theorem OF.ext {w w' : World} {O : Nat} {l : List (Bool × Lc)} (h : OF w O l) (k : Ex w w') : OF w' O l := by
  obtain ⟨rv, ls, h1, h2⟩ := h; exact ⟨rv, ls, h1.ext k, h2⟩
theorem OF.lt {w : World} {O : Nat} {l : List (Bool × Lc)} (h : OF w O l) : O < w.heap.size := by
  obtain ⟨rv, ls, h1, h2⟩ := h; exact h1.blk.lt
def canPut (n k : Nat) : Bool := decide (n < 64) && decide (k ≤ 8192)
def WPost (O : Nat) (l : List (Bool × Lc)) (b : Bool) (w : World) (e : Ending) (w' : World) : Prop := e = .returned (.bool b) ∧ OF w' O l ∧ FT O w w'
theorem wp_ifapp {o : Oper} {a : Act} {w : World} {K : Act → World → Prop} {Q : Exit → Act → World → Prop} (s x : Operand)
    (hop : o.op = .call { callee := .builtin .append, args := #[s, x], argTypes := #[105, 105] }) (base : Nat) (v : Value) (n : Nat) (xs : List Value) (hs : a.eval s = v) (hown : w.ownsRow base 20 1 v n xs)
    (g : Nat) (u : Value) (hx : a.eval x = .slice (some ⟨g, 0, none⟩) 1 1) (hc : w.cell? ⟨g, 0, none⟩ = some u) (hu : u.oneCell' = true) (hn : n ≤ 1000000) (hb : base ≤ w.heap.size)
    (h : ∀ v' w', w'.ownsRow base 20 1 v' (n + 1) (xs ++ [u]) → w.grownBy w' v.ownBlock → K (a.put o.dst v') w') : o.wp Try.prog a w K Q := by
  obtain ⟨i0, hi0, hz0, hz1, hz2⟩ := info_parts if_info
  obtain ⟨v', w', hrun, r1, r2, _⟩ := run_append_own (P := Try.prog) w base 105 o.type 20 i0 _ 1 16 Try.underlying105 hi0 hz0 hz1 hz2 rfl (by omega) v n xs hown ⟨g, 0, none⟩ 1 1 [u] rfl (fun j z hz => by
    match j, hz with
    | 0, hz => rw [← hz]; exact hc
    | j + 1, hz => simp at hz) (fun z hz => by simp at hz; rw [hz]; exact hu) (by unfold maxLen; omega) (by omega) hb
  unfold Oper.wp
  simp [execOp, hop, resolve, invoke, builtin, hs, hx, hrun, Result.andThen]
  exact h v' w' r1 r2
/-- assertions of any kind -/
structure Sa where
  holds : Value → World → Prop
  stab : ∀ v w w', holds v w → Ex w w' → holds v w'
def Sa.is (x : Value) : Sa := ⟨fun v _ => v = x, fun _ _ _ h _ => h⟩
def Sa.any : Sa := ⟨fun _ _ => True, fun _ _ _ h _ => h⟩
def saPhi (T : List Sa) (i : Nat) (v : Value) (w : World) : Prop := (T.getD i .any).holds v w
theorem saPhi_stable (T : List Sa) (i : Nat) (v : Value) (w w' : World) (h : saPhi T i v w) (k : Ex w w') : saPhi T i v w' := (T.getD i .any).stab v w w' h k
def Sa.let_ (a : Lt) (B : Nat) : Sa := ⟨fun v w => ∃ p : Pt, v = Lt.V { a with bs := p } ∧ p.l = a.bs.l ∧ PN w B p, fun _ _ _ ⟨p, h1, h2, h3⟩ k => ⟨p, h1, h2, h3.ext k⟩⟩
def Sa.ifl (t : TypeId) (a : Lt) (B : Nat) : Sa := ⟨fun v w => ∃ p : Pt, v = .iface t (Lt.V { a with bs := p }) ∧ p.l = a.bs.l ∧ PN w B p, fun _ _ _ ⟨p, h1, h2, h3⟩ k => ⟨p, h1, h2, h3.ext k⟩⟩
def Sa.one (a : Lt) (B : Nat) : Sa := ⟨fun v w => ∃ (g : Nat) (p : Pt), v = .slice (some ⟨g, 0, none⟩) 1 1 ∧ Bk w g 20 #[.iface 70 (Lt.V { a with bs := p })] ∧ p.l = a.bs.l ∧ PN w B p, fun _ _ _ ⟨g, p, h1, h2, h3, h4⟩ k => ⟨g, p, h1, h2.ext k, h3, h4.ext k⟩⟩
def Sa.row (a : Lt) (O : Nat) (ls : List (Bool × Lt)) : Sa := ⟨fun v w => ∃ p : Pt, w.ownsRow (O + 1) 20 1 v (ls.length + 1) (rowC (ls ++ [(false, { a with bs := p })])) ∧ p.l = a.bs.l ∧ PN w (O + 1) p, fun _ _ _ ⟨p, h1, h2, h3⟩ k => ⟨p, row_ext h1 k, h2, h3.ext k⟩⟩
def prs : List (Nat × Nat) := [(9, 4), (9, 8), (8, 7), (7, 6), (6, 5), (12, 9)]
theorem ord_step {listed : Array Bool} {i : Nat} (h : ∀ x ∈ prs, listed.getD x.1 false = true → listed.getD x.2 false = true) (hi : ∀ x ∈ prs, x.1 = i → listed.getD x.2 false = true) : ∀ x ∈ prs, (listed.setIfInBounds i true).getD x.1 false = true → (listed.setIfInBounds i true).getD x.2 false = true := by
  have mono : ∀ k, listed.getD k false = true → (listed.setIfInBounds i true).getD k false = true := fun k hk => by
    by_cases e : i = k
    · subst e
      have : i < listed.size := by
        rcases Nat.lt_or_ge i listed.size with h | h
        · exact h
        · rw [Array.getD_eq_getD_getElem?, Array.getElem?_eq_none h] at hk; cases hk
      exact bit_new this
    · rw [bit_set e]; exact hk
  intro x hx h1
  rcases listed_set h1 with e | h1
  · exact mono _ (hi x hx e)
  · exact mono _ (h x hx h1)
/-- what holds amid Put's last region -/
structure JQ (w1 : World) (O : Nat) (rv : Value) (lt : Lt) (ls : List (Bool × Lt)) (l : List (Bool × Lc)) (T : List Sa) (listed : Array Bool) (f : Nat → Value) (w : World) : Prop where
  vals : ∀ i, i ≠ 8 → i ≠ 9 → listed.getD i false = true → (T.getD i .any).holds (f i) w
  one : listed.getD 8 false = true → listed.getD 9 false = false → (Sa.one lt (O + 1)).holds (f 8) w
  pre : listed.getD 9 false = false → Ex w1 w
  app : listed.getD 9 false = true → listed.getD 12 false = false → (Sa.row lt O ls).holds (f 9) w ∧ Bk w O 107 #[rv] ∧ (∀ (i : Nat) (x : Bool × Lt), ls[i]? = some x → LN w (O + 1) x.2) ∧ FT O w1 w
  fin : listed.getD 12 false = true → OF w O l ∧ FT O w1 w
  ord : ∀ x ∈ prs, listed.getD x.1 false = true → listed.getD x.2 false = true
theorem JQ.plain {w1 : World} {O : Nat} {rv : Value} {lt : Lt} {ls : List (Bool × Lt)} {l : List (Bool × Lc)} {T : List Sa} {listed : Array Bool} {f : Nat → Value} {w w' : World} (h : JQ w1 O rv lt ls l T listed f w) {i : Nat} {v : Value} (h8 : i ≠ 8) (h9 : i ≠ 9) (h12 : i ≠ 12) (hO : O ≤ w.heap.size) (x : Ex w w') (hv : (T.getD i .any).holds v w') (hi : ∀ x ∈ prs, x.1 = i → listed.getD x.2 false = true) :
    JQ w1 O rv lt ls l T (listed.setIfInBounds i true) (upd f i v) w' := by
  refine ⟨fun j j8 j9 hj => ?_, fun a b => ?_, fun a => ?_, fun a b => ?_, fun a => ?_, ord_step h.ord hi⟩
  · by_cases e : j = i
    · subst e; rw [upd_same]; exact hv
    · rw [upd_ne _ _ e]
      rcases listed_set hj with rfl | hj
      · exact absurd rfl e
      · exact (T.getD j .any).stab _ _ _ (h.vals j j8 j9 hj) x
  · rw [bit_set h8] at a; rw [bit_set h9] at b; rw [upd_ne _ _ (Ne.symm h8)]; exact (Sa.one lt (O + 1)).stab _ _ _ (h.one a b) x
  · rw [bit_set h9] at a; exact Ex.trans (h.pre a) x
  · rw [bit_set h9] at a; rw [bit_set h12] at b; rw [upd_ne _ _ (Ne.symm h9)]
    obtain ⟨k1, k2, k3, k4⟩ := h.app a b
    exact ⟨(Sa.row lt O ls).stab _ _ _ k1 x, k2.ext x, fun i x' hx => (k3 i x' hx).ext x, k4.trans (x.ft hO)⟩
  · rw [bit_set h12] at a
    obtain ⟨k1, k2⟩ := h.fin a
    exact ⟨k1.ext x, k2.trans (x.ft hO)⟩
set_option maxHeartbeats 4000000 in
set_option maxRecDepth 100000 in
theorem pnew_any (w : World) : Calls Try.prog 29 #[] w fun e w' => ∃ O, e = .returned (.pointer (some ⟨O, 0, none⟩)) ∧ w.heap.size ≤ O ∧ OF w' O [] ∧ Ex w w' := by
  go_enter Try.func29, Try.ntmps29
  go_wp2_with fail
  go_ret
  exact ⟨w.heap.size, rfl, Nat.le_refl _, ⟨_, [], ⟨Bk.new rfl _ _, World.ownsRow_nil _ _ _ _, fun i x hx => by simp at hx, by decide, fun i x hx => by simp at hx⟩, rfl⟩, Ex.alloc _ _⟩
set_option maxHeartbeats 4000000 in
set_option maxRecDepth 100000 in
theorem put_any (O : Nat) (l : List (Bool × Lc)) (lt : Lt) (w : World) (h : OF w O l) (ha : lt.Ok) (hb : lt.bs.In w w.heap.size) (hsz : lt.bs.l.length ≤ 1000000) :
    Calls Try.prog 31 #[.pointer (some ⟨O, 0, none⟩), lt.V] w (WPost O (if canPut l.length lt.bs.l.length = true then l ++ [(false, lt.ct)] else l) (canPut l.length lt.bs.l.length) w) := by
  have hlt := h.lt
  obtain ⟨bb, hbb⟩ : ∃ b, b = canPut l.length lt.bs.l.length := ⟨_, rfl⟩
  rw [← hbb]
  obtain ⟨R, hR⟩ : ∃ R, R = if bb = true then l ++ [(false, lt.ct)] else l := ⟨_, rfl⟩
  rw [← hR]
  obtain ⟨rv, ls, OB0, hct⟩ := h
  have hlen : l.length = ls.length := by rw [← hct]; simp [ctO]
  skip
  have HL := Lib.hid hlen
  have HCT := Lib.hid hct
  have AOK := Lib.hid ha
  have CO := Lib.hid (fun w1 (k : Ex w w1) => ownl_any lt (by omega) w1 ha (hb.ext k))
  obtain ⟨ad, cap, rfl, _⟩ := OB0.form
  obtain ⟨cs, hcs⟩ : ∃ cs, cs = lt.C.toArray := ⟨_, rfl⟩
  have A0 : Hid (LB (w.alloc (.cells cs 70)) w.heap.size lt) := Lib.hid ⟨ha, by rw [hcs]; exact Bk.new rfl _ _⟩
  have BW : Hid (Ex w (w.alloc (.cells cs 70))) := Lib.hid (Ex.alloc _ _)
  replace OB0 := Lib.hid (OB0.ext BW.out)
  have HO := Lib.hid (show O < w.heap.size from hlt)
  rw [show (Calls Try.prog 31 #[.pointer (some ⟨O, 0, none⟩), lt.V] w) = (Calls Try.prog 31 #[.pointer (some ⟨O, 0, none⟩), .agg cs] w) by rw [hcs]; rfl]
  rw [hlen] at hbb
  unfold canPut at hbb
  have HBB := Lib.hid hbb
  have HR := Lib.hid hR
  clear hcs ha hb hlen hct hlt hbb hR
  go_enter Try.func31, Try.ntmps31
  go_wp2_with (first | (with_reducible refine stop_load (t := 105) ?_))
  (with_reducible refine ⟨?_⟩)
  change wpList _ _ _ _ _ (w.alloc (.cells cs 70))
  generalize hw1 : (w.alloc (.cells cs 70)) = w1 at *
  clear hw1
  have c0 : w1.cell? ⟨O, 0, none⟩ = some (.slice ad ls.length cap) := OB0.out.blk.cell 0
  obtain ⟨a0, a1, a2, a3⟩ := A0.out.cells
  unfold Pt.V at a3
  obtain ⟨m, hm⟩ : ∃ m, m = ls.length := ⟨_, rfl⟩
  have HM := Lib.hid hm
  rw [← hm] at c0
  have h64 : m ≤ 64 := by rw [hm]; exact OB0.out.len
  clear hm
  by_cases h1 : m < 64
  · skip
    by_cases h2 : lt.bs.l.length ≤ 8192
    · have BT : Hid (bb = true) := Lib.hid (by rw [HBB.out, ← HM.out, decide_eq_true h1, decide_eq_true h2]; rfl)
      have h2i : (lt.bs.l.length : Int) ≤ 8192 := by omega
      have h1i : (m : Int) < 64 := by omega
      have H2 := Lib.hid h2
      go_wp2_with fail
      obtain ⟨T, hT⟩ : ∃ T : List Sa, T = [.is (.pointer (some ⟨O, 0, none⟩)), .is (.pointer (some ⟨O, 0, none⟩)), .is (.pointer (some ⟨O, 0, none⟩)), .is (.pointer (some ⟨O, 0, none⟩)), .is (.slice ad m cap), .is (lt.V), (.let_ lt (O + 1)), (.ifl 70 lt (O + 1)), .any, .any, .is (.pointer (some ⟨O, 0, none⟩)), .is (.pointer (some ⟨O, 0, none⟩)), .any] := ⟨_, rfl⟩
      have HT := Lib.hid hT
      refine wp_region_gen (JQ w1 O (.slice ad m cap) lt ls (l ++ [(false, lt.ct)]) T) (by kernel_rfl) (by kernel_rfl) (by kernel_rfl) (fitB_spec (by kernel_rfl)) ?_ ?_ ?_
      · intro listed f h0
        exact ⟨fun i _ _ hi => absurd hi (by rw [h0 i]; decide), fun hi => absurd hi (by rw [h0 8]; decide), fun _ => (Below.refl _ _).drew, fun hi => absurd hi (by rw [h0 9]; decide), fun hi => absurd hi (by rw [h0 12]; decide), fun x _ hx => absurd hx (by rw [h0 x.1]; decide)⟩
      · intro i o ho
        have hi : i < 13 := (Array.getElem?_eq_some_iff.1 ho).1
        have hi' : i = 0 ∨ i = 1 ∨ i = 2 ∨ i = 3 ∨ i = 4 ∨ i = 5 ∨ i = 6 ∨ i = 7 ∨ i = 8 ∨ i = 9 ∨ i = 10 ∨ i = 11 ∨ i = 12 := by omega
        clear hi
        rcases hi' with rfl | rfl | rfl | rfl | rfl | rfl | rfl | rfl | rfl | rfl | rfl | rfl | rfl
        all_goals (simp only [List.getElem?_toArray, List.getElem?_cons_zero, List.getElem?_cons_succ, Option.some.injEq] at ho; subst ho; intro listed f a w2 hJ hsz hls hun hdep hout hlat)
        · have hO2 : O ≤ w2.heap.size := by
            by_cases h9 : listed.getD 9 false = false
            · have := (hJ.pre h9).sz; have h1 := HO.out; have h2 := BW.out.sz; omega
            · by_cases h12 : listed.getD 12 false = false
              · have := (hJ.app (by simpa using h9) h12).2.2.2.size; have h1 := HO.out; have h2 := BW.out.sz; omega
              · have := (hJ.fin (by simpa using h12)).2.size; have h1 := HO.out; have h2 := BW.out.sz; omega
          rw [if_pos (by rfl)]
          intro K hK
          have q0 := hout 0 (outB_spec (by kernel_rfl))
          have hord : ∀ x ∈ prs, x.1 = 0 → listed.getD x.2 false = true := (by intro x hx he; simp only [prs, List.mem_cons, List.not_mem_nil, or_false] at hx; rcases hx with rfl | rfl | rfl | rfl | rfl | rfl; all_goals first | (exact absurd he (by decide)) | assumption)
          refine wp_mv _ rfl (hK _ _ ?_)
          rw [show a.eval (.tmp 0) = .pointer (some ⟨O, 0, none⟩) from q0]
          exact hJ.plain (by decide) (by decide) (by decide) hO2 (Ex.refl _) (by rw [hT]; rfl) hord
        · have hO2 : O ≤ w2.heap.size := by
            by_cases h9 : listed.getD 9 false = false
            · have := (hJ.pre h9).sz; have h1 := HO.out; have h2 := BW.out.sz; omega
            · by_cases h12 : listed.getD 12 false = false
              · have := (hJ.app (by simpa using h9) h12).2.2.2.size; have h1 := HO.out; have h2 := BW.out.sz; omega
              · have := (hJ.fin (by simpa using h12)).2.size; have h1 := HO.out; have h2 := BW.out.sz; omega
          rw [if_pos (by rfl)]
          intro K hK
          have q0 := hout 0 (outB_spec (by kernel_rfl))
          have hord : ∀ x ∈ prs, x.1 = 1 → listed.getD x.2 false = true := (by intro x hx he; simp only [prs, List.mem_cons, List.not_mem_nil, or_false] at hx; rcases hx with rfl | rfl | rfl | rfl | rfl | rfl; all_goals first | (exact absurd he (by decide)) | assumption)
          refine wp_mv _ rfl (hK _ _ ?_)
          rw [show a.eval (.tmp 0) = .pointer (some ⟨O, 0, none⟩) from q0]
          exact hJ.plain (by decide) (by decide) (by decide) hO2 (Ex.refl _) (by rw [hT]; rfl) hord
        · have hO2 : O ≤ w2.heap.size := by
            by_cases h9 : listed.getD 9 false = false
            · have := (hJ.pre h9).sz; have h1 := HO.out; have h2 := BW.out.sz; omega
            · by_cases h12 : listed.getD 12 false = false
              · have := (hJ.app (by simpa using h9) h12).2.2.2.size; have h1 := HO.out; have h2 := BW.out.sz; omega
              · have := (hJ.fin (by simpa using h12)).2.size; have h1 := HO.out; have h2 := BW.out.sz; omega
          rw [if_pos (by rfl)]
          intro K hK
          have q18 := (hdep ⟨1, .data⟩ (by simp) rfl).2 _ rfl _ rfl
          have h18 := hJ.vals 1 (by decide) (by decide) (hdep ⟨1, .data⟩ (by simp) rfl).1
          rw [hT] at h18
          rw [show f 1 = .pointer (some ⟨O, 0, none⟩) from h18] at q18
          have hord : ∀ x ∈ prs, x.1 = 2 → listed.getD x.2 false = true := (by intro x hx he; simp only [prs, List.mem_cons, List.not_mem_nil, or_false] at hx; rcases hx with rfl | rfl | rfl | rfl | rfl | rfl; all_goals first | (exact absurd he (by decide)) | assumption)
          rw [Array.getD_eq_getD_getElem?] at q18
          clear hsz hdep hout hlat
          go_simp
          exact hK _ _ (hJ.plain (by decide) (by decide) (by decide) hO2 (Ex.refl _) (by rw [hT]; rfl) hord)
        · have hO2 : O ≤ w2.heap.size := by
            by_cases h9 : listed.getD 9 false = false
            · have := (hJ.pre h9).sz; have h1 := HO.out; have h2 := BW.out.sz; omega
            · by_cases h12 : listed.getD 12 false = false
              · have := (hJ.app (by simpa using h9) h12).2.2.2.size; have h1 := HO.out; have h2 := BW.out.sz; omega
              · have := (hJ.fin (by simpa using h12)).2.size; have h1 := HO.out; have h2 := BW.out.sz; omega
          rw [if_pos (by rfl)]
          intro K hK
          have q19 := (hdep ⟨2, .data⟩ (by simp) rfl).2 _ rfl _ rfl
          have h19 := hJ.vals 2 (by decide) (by decide) (hdep ⟨2, .data⟩ (by simp) rfl).1
          rw [hT] at h19
          rw [show f 2 = .pointer (some ⟨O, 0, none⟩) from h19] at q19
          have hord : ∀ x ∈ prs, x.1 = 3 → listed.getD x.2 false = true := (by intro x hx he; simp only [prs, List.mem_cons, List.not_mem_nil, or_false] at hx; rcases hx with rfl | rfl | rfl | rfl | rfl | rfl; all_goals first | (exact absurd he (by decide)) | assumption)
          rw [Array.getD_eq_getD_getElem?] at q19
          clear hsz hdep hout hlat
          go_simp
          exact hK _ _ (hJ.plain (by decide) (by decide) (by decide) hO2 (Ex.refl _) (by rw [hT]; rfl) hord)
        · have hO2 : O ≤ w2.heap.size := by
            by_cases h9 : listed.getD 9 false = false
            · have := (hJ.pre h9).sz; have h1 := HO.out; have h2 := BW.out.sz; omega
            · by_cases h12 : listed.getD 12 false = false
              · have := (hJ.app (by simpa using h9) h12).2.2.2.size; have h1 := HO.out; have h2 := BW.out.sz; omega
              · have := (hJ.fin (by simpa using h12)).2.size; have h1 := HO.out; have h2 := BW.out.sz; omega
          rw [if_pos (by rfl)]
          intro K hK
          have q20 := (hdep ⟨3, .data⟩ (by simp) rfl).2 _ rfl _ rfl
          have h20 := hJ.vals 3 (by decide) (by decide) (hdep ⟨3, .data⟩ (by simp) rfl).1
          rw [hT] at h20
          rw [show f 3 = .pointer (some ⟨O, 0, none⟩) from h20] at q20
          have hord : ∀ x ∈ prs, x.1 = 4 → listed.getD x.2 false = true := (by intro x hx he; simp only [prs, List.mem_cons, List.not_mem_nil, or_false] at hx; rcases hx with rfl | rfl | rfl | rfl | rfl | rfl; all_goals first | (exact absurd he (by decide)) | assumption)
          have n9 : listed.getD 9 false = false := by
            cases h9 : listed.getD 9 false with
            | false => rfl
            | true =>
              have := hJ.ord (9, 4) (by decide) h9
              rw [hun] at this; cases this
          have c1 : w2.cell? ⟨O, 0, none⟩ = some (.slice ad m cap) := by
            exact (Below.cell (p := ⟨O, 0, none⟩) (hJ.pre n9) (by show O < w1.heap.size; have := HO.out; have := BW.out.sz; omega)).trans c0
          rw [Array.getD_eq_getD_getElem?] at q20
          clear hsz hdep hout hlat
          go_simp
          exact hK _ _ (hJ.plain (by decide) (by decide) (by decide) hO2 (Ex.refl _) (by rw [hT]; rfl) hord)
        · have hO2 : O ≤ w2.heap.size := by
            by_cases h9 : listed.getD 9 false = false
            · have := (hJ.pre h9).sz; have h1 := HO.out; have h2 := BW.out.sz; omega
            · by_cases h12 : listed.getD 12 false = false
              · have := (hJ.app (by simpa using h9) h12).2.2.2.size; have h1 := HO.out; have h2 := BW.out.sz; omega
              · have := (hJ.fin (by simpa using h12)).2.size; have h1 := HO.out; have h2 := BW.out.sz; omega
          rw [if_pos (by rfl)]
          intro K hK
          have q3 := hout 3 (outB_spec (by kernel_rfl))
          have hord : ∀ x ∈ prs, x.1 = 5 → listed.getD x.2 false = true := (by intro x hx he; simp only [prs, List.mem_cons, List.not_mem_nil, or_false] at hx; rcases hx with rfl | rfl | rfl | rfl | rfl | rfl; all_goals first | (exact absurd he (by decide)) | assumption)
          have n9 : listed.getD 9 false = false := by
            cases h9 : listed.getD 9 false with
            | false => rfl
            | true =>
              have a8 := hJ.ord (9, 8) (by decide) h9
              have a7 := hJ.ord (8, 7) (by decide) a8
              have a6 := hJ.ord (7, 6) (by decide) a7
              have a5 := hJ.ord (6, 5) (by decide) a6
              rw [show listed.getD 5 false = false from hun] at a5; cases a5
          have hA : LB w2 w.heap.size lt := A0.out.ext (hJ.pre n9)
          exact ld_l _ w.heap.size lt rfl q3 hA (hK _ _ (hJ.plain (by decide) (by decide) (by decide) hO2 (Ex.refl _) (by rw [hT]; rfl) hord))
        · have hO2 : O ≤ w2.heap.size := by
            by_cases h9 : listed.getD 9 false = false
            · have := (hJ.pre h9).sz; have h1 := HO.out; have h2 := BW.out.sz; omega
            · by_cases h12 : listed.getD 12 false = false
              · have := (hJ.app (by simpa using h9) h12).2.2.2.size; have h1 := HO.out; have h2 := BW.out.sz; omega
              · have := (hJ.fin (by simpa using h12)).2.size; have h1 := HO.out; have h2 := BW.out.sz; omega
          rw [if_pos (by rfl)]
          intro K hK
          have q22 := (hdep ⟨5, .data⟩ (by simp) rfl).2 _ rfl _ rfl
          have h22 := hJ.vals 5 (by decide) (by decide) (hdep ⟨5, .data⟩ (by simp) rfl).1
          rw [hT] at h22
          rw [show f 5 = lt.V from h22] at q22
          have hord : ∀ x ∈ prs, x.1 = 6 → listed.getD x.2 false = true := (by intro x hx he; simp only [prs, List.mem_cons, List.not_mem_nil, or_false] at hx; rcases hx with rfl | rfl | rfl | rfl | rfl | rfl; all_goals first | (exact absurd he (by decide)) | exact (hdep ⟨5, .data⟩ (by simp) rfl).1 | assumption)
          have n9 : listed.getD 9 false = false := by
            cases h9 : listed.getD 9 false with
            | false => rfl
            | true =>
              have a8 := hJ.ord (9, 8) (by decide) h9
              have a7 := hJ.ord (8, 7) (by decide) a8
              have a6 := hJ.ord (7, 6) (by decide) a7
              rw [show listed.getD 6 false = false from hun] at a6; cases a6
          have hX : Ex w w2 := Ex.trans BW.out (hJ.pre n9)
          rw [Array.getD_eq_getD_getElem?] at q22
          clear hsz hdep hout hlat
          go_simp
          refine (CO.out w2 hX).mono ?_
          rintro e w3 ⟨p, rfl, hl, hn, x3⟩
          exact hK _ _ (hJ.plain (by decide) (by decide) (by decide) hO2 x3 (by rw [hT]; exact ⟨p, rfl, hl, hn.less (by have := HO.out; have := hX.sz; omega)⟩) hord)
        · have hO2 : O ≤ w2.heap.size := by
            by_cases h9 : listed.getD 9 false = false
            · have := (hJ.pre h9).sz; have h1 := HO.out; have h2 := BW.out.sz; omega
            · by_cases h12 : listed.getD 12 false = false
              · have := (hJ.app (by simpa using h9) h12).2.2.2.size; have h1 := HO.out; have h2 := BW.out.sz; omega
              · have := (hJ.fin (by simpa using h12)).2.size; have h1 := HO.out; have h2 := BW.out.sz; omega
          rw [if_pos (by rfl)]
          intro K hK
          have q23 := (hdep ⟨6, .data⟩ (by simp) rfl).2 _ rfl _ rfl
          have h23 := hJ.vals 6 (by decide) (by decide) (hdep ⟨6, .data⟩ (by simp) rfl).1
          rw [hT] at h23
          obtain ⟨p23, e23, l23, i23⟩ := h23
          rw [e23] at q23
          have hord : ∀ x ∈ prs, x.1 = 7 → listed.getD x.2 false = true := (by intro x hx he; simp only [prs, List.mem_cons, List.not_mem_nil, or_false] at hx; rcases hx with rfl | rfl | rfl | rfl | rfl | rfl; all_goals first | (exact absurd he (by decide)) | exact (hdep ⟨6, .data⟩ (by simp) rfl).1 | assumption)
          have n9 : listed.getD 9 false = false := by
            cases h9 : listed.getD 9 false with
            | false => rfl
            | true =>
              have a8 := hJ.ord (9, 8) (by decide) h9
              have a7 := hJ.ord (8, 7) (by decide) a8
              rw [show listed.getD 7 false = false from hun] at a7; cases a7
          rw [Array.getD_eq_getD_getElem?] at q23
          clear hsz hdep hout hlat
          go_simp
          exact hK _ _ (hJ.plain (by decide) (by decide) (by decide) hO2 (Ex.refl _) (by rw [hT]; exact ⟨p23, rfl, l23, i23⟩) hord)
        · have hO2 : O ≤ w2.heap.size := by
            by_cases h9 : listed.getD 9 false = false
            · have := (hJ.pre h9).sz; have h1 := HO.out; have h2 := BW.out.sz; omega
            · by_cases h12 : listed.getD 12 false = false
              · have := (hJ.app (by simpa using h9) h12).2.2.2.size; have h1 := HO.out; have h2 := BW.out.sz; omega
              · have := (hJ.fin (by simpa using h12)).2.size; have h1 := HO.out; have h2 := BW.out.sz; omega
          rw [if_pos (by rfl)]
          intro K hK
          have q24 := (hdep ⟨7, .data⟩ (by simp) rfl).2 _ rfl _ rfl
          have h24 := hJ.vals 7 (by decide) (by decide) (hdep ⟨7, .data⟩ (by simp) rfl).1
          rw [hT] at h24
          obtain ⟨p24, e24, l24, i24⟩ := h24
          rw [e24] at q24
          have hord : ∀ x ∈ prs, x.1 = 8 → listed.getD x.2 false = true := (by intro x hx he; simp only [prs, List.mem_cons, List.not_mem_nil, or_false] at hx; rcases hx with rfl | rfl | rfl | rfl | rfl | rfl; all_goals first | (exact absurd he (by decide)) | exact (hdep ⟨7, .data⟩ (by simp) rfl).1 | assumption)
          have n9 : listed.getD 9 false = false := by
            cases h9 : listed.getD 9 false with
            | false => rfl
            | true =>
              have a8 := hJ.ord (9, 8) (by decide) h9
              rw [show listed.getD 8 false = false from hun] at a8; cases a8
          rw [Array.getD_eq_getD_getElem?] at q24
          clear hsz hdep hout hlat
          go_simp
          refine hK _ _ ⟨fun j j8 j9 hj => ?_, fun _ _ => ?_, fun a => ?_, fun a b => ?_, fun a => ?_, ord_step hJ.ord hord⟩
          · rw [upd_ne _ _ j8]
            rcases listed_set hj with rfl | hj
            · exact absurd rfl j8
            · exact (T.getD j .any).stab _ _ _ (hJ.vals j j8 j9 hj) (Ex.alloc _ _)
          · rw [upd_same]; exact ⟨_, p24, rfl, Bk.new rfl _ _, l24, i24.ext (Ex.alloc _ _)⟩
          · rw [bit_set (by decide)] at a; exact Ex.trans (hJ.pre a) (Ex.alloc _ _)
          · rw [bit_set (by decide)] at a b; rw [upd_ne _ _ (by decide)]; obtain ⟨k1, k2, k3, k4⟩ := hJ.app a b; exact ⟨(Sa.row lt O ls).stab _ _ _ k1 (Ex.alloc _ _), k2.ext (Ex.alloc _ _), fun i x' hx => (k3 i x' hx).ext (Ex.alloc _ _), k4.trans ((Ex.alloc _ _).ft hO2)⟩
          · rw [bit_set (by decide)] at a; obtain ⟨k1, k2⟩ := hJ.fin a; exact ⟨k1.ext (Ex.alloc _ _), k2.trans ((Ex.alloc _ _).ft hO2)⟩
        · have hO2 : O ≤ w2.heap.size := by
            by_cases h9 : listed.getD 9 false = false
            · have := (hJ.pre h9).sz; have h1 := HO.out; have h2 := BW.out.sz; omega
            · by_cases h12 : listed.getD 12 false = false
              · have := (hJ.app (by simpa using h9) h12).2.2.2.size; have h1 := HO.out; have h2 := BW.out.sz; omega
              · have := (hJ.fin (by simpa using h12)).2.size; have h1 := HO.out; have h2 := BW.out.sz; omega
          rw [if_pos (by rfl)]
          intro K hK
          have q21 := (hdep ⟨4, .data⟩ (by simp) rfl).2 _ rfl _ rfl
          have h21 := hJ.vals 4 (by decide) (by decide) (hdep ⟨4, .data⟩ (by simp) rfl).1
          rw [hT] at h21
          rw [show f 4 = .slice ad m cap from h21] at q21
          have q25 := (hdep ⟨8, .data⟩ (by simp) rfl).2 _ rfl _ rfl
          have hord : ∀ x ∈ prs, x.1 = 9 → listed.getD x.2 false = true := (by intro x hx he; simp only [prs, List.mem_cons, List.not_mem_nil, or_false] at hx; rcases hx with rfl | rfl | rfl | rfl | rfl | rfl; all_goals first | (exact absurd he (by decide)) | exact (hdep ⟨4, .data⟩ (by simp) rfl).1 | exact (hdep ⟨8, .data⟩ (by simp) rfl).1 | assumption)
          have hX := hJ.pre hun
          obtain ⟨g25, p25, e25, b25, l25, i25⟩ := hJ.one (hdep ⟨8, .data⟩ (by simp) rfl).1 hun
          rw [e25] at q25
          have OB2 := OB0.out.ext hX
          refine wp_ifapp (.tmp 21) (.tmp 25) rfl (O + 1) (.slice ad m cap) ls.length (rowC ls) q21 (by rw [HM.out]; exact OB2.row) g25 (.iface 70 (Lt.V { lt with bs := p25 })) q25 (b25.cell 0) rfl (by have := OB2.len; omega) (by have := OB2.blk.lt; omega) (fun v9 w9 hrow hgr => hK _ _ ?_)
          have FT9 : FT O w2 w9 := FT.grown OB2 (by rw [← HM.out]; exact hgr)
          refine ⟨fun j j8 j9 hj => ?_, fun _ b => ?_, fun b => ?_, fun _ _ => ⟨?_, ?_, ?_, ?_⟩, fun b => ?_, ord_step hJ.ord hord⟩
          · rw [upd_ne _ _ j9]
            rcases listed_set hj with rfl | hj
            · exact absurd rfl j9
            · have hv := hJ.vals j j8 j9 hj
              have hj13 : j < 13 := by
                rcases Nat.lt_or_ge j 13 with h | h
                · exact h
                · rw [Array.getD_eq_getD_getElem?, Array.getElem?_eq_none (by rw [hls]; exact h)] at hj; cases hj
              rw [hT] at hv ⊢
              have hj' : j = 0 ∨ j = 1 ∨ j = 2 ∨ j = 3 ∨ j = 4 ∨ j = 5 ∨ j = 6 ∨ j = 7 ∨ j = 8 ∨ j = 9 ∨ j = 10 ∨ j = 11 ∨ j = 12 := by omega
              rcases hj' with rfl | rfl | rfl | rfl | rfl | rfl | rfl | rfl | rfl | rfl | rfl | rfl | rfl
              all_goals first | exact hv | (obtain ⟨p, h1, h2, h3⟩ := hv; exact ⟨p, h1, h2, h3.ft FT9⟩)
          · rw [bit_new (by rw [hls]; decide)] at b; cases b
          · rw [bit_new (by rw [hls]; decide)] at b; cases b
          · rw [upd_same]; exact ⟨p25, by rw [show rowC (ls ++ [(false, { lt with bs := p25 })]) = rowC ls ++ [Value.iface 70 (Lt.V { lt with bs := p25 })] from by unfold rowC; rw [List.map_append]; rfl]; exact hrow, l25, i25.ft FT9⟩
          · exact (hgr.block O OB2.blk.lt (fun e => by have := (OB2.rowb O (by rw [← HM.out]; exact e.symm)).1; omega)).trans (by rw [HM.out]; exact OB2.blk)
          · exact fun i x hx => (OB2.ins i x hx).ft FT9
          · exact (hX.ft (by have h1 := HO.out; have h2 := BW.out.sz; omega)).trans FT9
          · rw [bit_set (by decide)] at b; have := hJ.ord (12, 9) (by decide) b; rw [hun] at this; cases this
        · have hO2 : O ≤ w2.heap.size := by
            by_cases h9 : listed.getD 9 false = false
            · have := (hJ.pre h9).sz; have h1 := HO.out; have h2 := BW.out.sz; omega
            · by_cases h12 : listed.getD 12 false = false
              · have := (hJ.app (by simpa using h9) h12).2.2.2.size; have h1 := HO.out; have h2 := BW.out.sz; omega
              · have := (hJ.fin (by simpa using h12)).2.size; have h1 := HO.out; have h2 := BW.out.sz; omega
          rw [if_pos (by rfl)]
          intro K hK
          have q17 := (hdep ⟨0, .data⟩ (by simp) rfl).2 _ rfl _ rfl
          have h17 := hJ.vals 0 (by decide) (by decide) (hdep ⟨0, .data⟩ (by simp) rfl).1
          rw [hT] at h17
          rw [show f 0 = .pointer (some ⟨O, 0, none⟩) from h17] at q17
          have hord : ∀ x ∈ prs, x.1 = 10 → listed.getD x.2 false = true := (by intro x hx he; simp only [prs, List.mem_cons, List.not_mem_nil, or_false] at hx; rcases hx with rfl | rfl | rfl | rfl | rfl | rfl; all_goals first | (exact absurd he (by decide)) | assumption)
          rw [Array.getD_eq_getD_getElem?] at q17
          clear hsz hdep hout hlat
          go_simp
          exact hK _ _ (hJ.plain (by decide) (by decide) (by decide) hO2 (Ex.refl _) (by rw [hT]; rfl) hord)
        · have hO2 : O ≤ w2.heap.size := by
            by_cases h9 : listed.getD 9 false = false
            · have := (hJ.pre h9).sz; have h1 := HO.out; have h2 := BW.out.sz; omega
            · by_cases h12 : listed.getD 12 false = false
              · have := (hJ.app (by simpa using h9) h12).2.2.2.size; have h1 := HO.out; have h2 := BW.out.sz; omega
              · have := (hJ.fin (by simpa using h12)).2.size; have h1 := HO.out; have h2 := BW.out.sz; omega
          rw [if_pos (by rfl)]
          intro K hK
          have q27 := (hdep ⟨10, .data⟩ (by simp) rfl).2 _ rfl _ rfl
          have h27 := hJ.vals 10 (by decide) (by decide) (hdep ⟨10, .data⟩ (by simp) rfl).1
          rw [hT] at h27
          rw [show f 10 = .pointer (some ⟨O, 0, none⟩) from h27] at q27
          have hord : ∀ x ∈ prs, x.1 = 11 → listed.getD x.2 false = true := (by intro x hx he; simp only [prs, List.mem_cons, List.not_mem_nil, or_false] at hx; rcases hx with rfl | rfl | rfl | rfl | rfl | rfl; all_goals first | (exact absurd he (by decide)) | assumption)
          rw [Array.getD_eq_getD_getElem?] at q27
          clear hsz hdep hout hlat
          go_simp
          exact hK _ _ (hJ.plain (by decide) (by decide) (by decide) hO2 (Ex.refl _) (by rw [hT]; rfl) hord)
        · have hO2 : O ≤ w2.heap.size := by
            by_cases h9 : listed.getD 9 false = false
            · have := (hJ.pre h9).sz; have h1 := HO.out; have h2 := BW.out.sz; omega
            · by_cases h12 : listed.getD 12 false = false
              · have := (hJ.app (by simpa using h9) h12).2.2.2.size; have h1 := HO.out; have h2 := BW.out.sz; omega
              · have := (hJ.fin (by simpa using h12)).2.size; have h1 := HO.out; have h2 := BW.out.sz; omega
          rw [if_pos (by rfl)]
          intro K hK
          have q28 := (hdep ⟨11, .data⟩ (by simp) rfl).2 _ rfl _ rfl
          have h28 := hJ.vals 11 (by decide) (by decide) (hdep ⟨11, .data⟩ (by simp) rfl).1
          rw [hT] at h28
          rw [show f 11 = .pointer (some ⟨O, 0, none⟩) from h28] at q28
          have q26 := (hdep ⟨9, .data⟩ (by simp) rfl).2 _ rfl _ rfl
          have hord : ∀ x ∈ prs, x.1 = 12 → listed.getD x.2 false = true := (by intro x hx he; simp only [prs, List.mem_cons, List.not_mem_nil, or_false] at hx; rcases hx with rfl | rfl | rfl | rfl | rfl | rfl; all_goals first | (exact absurd he (by decide)) | exact (hdep ⟨9, .data⟩ (by simp) rfl).1 | assumption)
          have l9 : listed.getD 9 false = true := (hdep ⟨9, .data⟩ (by simp) rfl).1
          obtain ⟨⟨p26, r26, l26, i26⟩, k2, k3, k4⟩ := hJ.app l9 hun
          have hone : (f 9).oneCell' = true := by rcases r26.2 with h | ⟨g, cap, cur, h, _⟩ <;> first | (rw [h.1]; rfl) | (rw [h]; rfl)
          refine wp_st1 (C := [Value.slice ad m cap]) _ _ O 0 (f 9) rfl q28 q26 k2 (by simp) (by kernel_rfl) hone (fun w10 hd ho => hK _ _ ?_)
          have hI : ∀ (i : Nat) (x : Bool × Lt), (ls ++ [(false, { lt with bs := p26 })])[i]? = some x → LN w10 (O + 1) x.2 := by
            intro i x hx
            by_cases hi : i < ls.length
            · rw [List.getElem?_append_left hi] at hx
              have hx2 := k3 i x hx
              exact ⟨hx2.1, hx2.2.only ho (Nat.lt_succ_self O)⟩
            · rw [List.getElem?_append_right (by omega)] at hx
              have h0 : i - ls.length = 0 := by
                rcases Nat.eq_zero_or_pos (i - ls.length) with h | h
                · exact h
                · rw [List.getElem?_eq_none (by simp; omega)] at hx; cases hx
              rw [h0] at hx
              obtain rfl : (false, { lt with bs := p26 }) = x := by simpa using hx
              exact ⟨⟨AOK.out.kind0, AOK.out.kind1, AOK.out.frm0, AOK.out.frm1, AOK.out.to0, AOK.out.to1⟩, i26.only ho (Nat.lt_succ_self O)⟩
          have hS : ∀ (i : Nat) (x : Bool × Lt), (ls ++ [(false, { lt with bs := p26 })])[i]? = some x → x.2.bs.l.length ≤ 8192 := by
            intro i x hx
            by_cases hi : i < ls.length
            · rw [List.getElem?_append_left hi] at hx
              exact OB0.out.siz i x hx
            · rw [List.getElem?_append_right (by omega)] at hx
              have h0 : i - ls.length = 0 := by
                rcases Nat.eq_zero_or_pos (i - ls.length) with h | h
                · exact h
                · rw [List.getElem?_eq_none (by simp; omega)] at hx; cases hx
              rw [h0] at hx
              obtain rfl : (false, { lt with bs := p26 }) = x := by simpa using hx
              show p26.l.length ≤ 8192
              rw [l26]; exact H2.out
          have HOF : OF w10 O (l ++ [(false, lt.ct)]) := ⟨f 9, ls ++ [(false, { lt with bs := p26 })], ⟨hd, by have h := row_only r26 ho; rw [List.length_append]; exact h, hI, by rw [List.length_append, ← HM.out]; exact Nat.succ_le_of_lt h1, hS⟩, by unfold ctO; rw [List.map_append, show ls.map (fun x => (x.1, x.2.ct)) = l from HCT.out]; simp [Lt.ct, l26]⟩
          have HF : FT O w1 w10 := k4.trans (FT.md ho.md (Nat.le_refl O) k2 (Or.inr rfl))
          refine ⟨fun j j8 j9 hj => ?_, fun _ b => ?_, fun b => ?_, fun _ b => ?_, fun _ => ⟨HOF, HF⟩, ord_step hJ.ord hord⟩
          · by_cases e : j = 12
            · subst e; rw [hT]; trivial
            · rw [upd_ne _ _ e]
              rcases listed_set hj with rfl | hj
              · exact absurd rfl e
              · have hv := hJ.vals j j8 j9 hj
                have hj13 : j < 13 := by
                  rcases Nat.lt_or_ge j 13 with h | h
                  · exact h
                  · rw [Array.getD_eq_getD_getElem?, Array.getElem?_eq_none (by rw [hls]; exact h)] at hj; cases hj
                rw [hT] at hv ⊢
                have hj' : j = 0 ∨ j = 1 ∨ j = 2 ∨ j = 3 ∨ j = 4 ∨ j = 5 ∨ j = 6 ∨ j = 7 ∨ j = 8 ∨ j = 9 ∨ j = 10 ∨ j = 11 ∨ j = 12 := by omega
                rcases hj' with rfl | rfl | rfl | rfl | rfl | rfl | rfl | rfl | rfl | rfl | rfl | rfl | rfl
                all_goals first | exact hv | (obtain ⟨p, h1, h2, h3⟩ := hv; exact ⟨p, h1, h2, h3.only ho (Nat.lt_succ_self O)⟩)
          · rw [bit_set (by decide)] at b; rw [l9] at b; cases b
          · rw [bit_set (by decide)] at b; rw [l9] at b; cases b
          · rw [bit_new (by rw [hls]; decide)] at b; cases b
      · intro listed f w2 hall hJ
        obtain ⟨hof, hft⟩ := hJ.fin (hall 12 (by simp))
        have HOF2 := Lib.hid hof
        have HFT2 := Lib.hid ((BW.out.ft (Nat.le_of_lt HO.out)).trans hft)
        clear hof hft hJ hall hT
        simp only [putAll, Act.put, List.setIfInBounds_toArray, List.set_cons_zero, List.set_cons_succ, Nat.zero_add, Nat.reduceAdd]
        generalize f 0 = z0
        generalize f 1 = z1
        generalize f 2 = z2
        generalize f 3 = z3
        generalize f 4 = z4
        generalize f 5 = z5
        generalize f 6 = z6
        generalize f 7 = z7
        generalize f 8 = z8
        generalize f 9 = z9
        generalize f 10 = z10
        generalize f 11 = z11
        go_wp2_with fail
        go_ret
        exact ⟨by rw [BT.out]; rfl, by rw [HR.out, BT.out]; exact HOF2.out, HFT2.out⟩
    · have BT : Hid (bb = false) := Lib.hid (by rw [HBB.out, ← HM.out, decide_eq_true h1, decide_eq_false h2]; rfl)
      have h2i : ¬ ((lt.bs.l.length : Int) ≤ 8192) := by omega
      have h1i : (m : Int) < 64 := by omega
      have X := Lib.hid (Ex.ft (O := O) BW.out (Nat.le_of_lt HO.out))
      have OFX : Hid (OF w1 O l) := Lib.hid ⟨_, ls, OB0.out, HCT.out⟩
      clear h2 OB0 A0
      go_wp2_with fail
      go_ret
      exact ⟨by rw [BT.out]; rfl, by rw [HR.out, BT.out]; exact OFX.out, X.out⟩
  · have BT : Hid (bb = false) := Lib.hid (by rw [HBB.out, ← HM.out, decide_eq_false h1]; rfl)
    have h1i : ¬ ((m : Int) < 64) := by omega
    have X := Lib.hid (Ex.ft (O := O) BW.out (Nat.le_of_lt HO.out))
    have OFX : Hid (OF w1 O l) := Lib.hid ⟨_, ls, OB0.out, HCT.out⟩
    clear h1 OB0 A0
    go_wp2_with fail
    go_ret
    exact ⟨by rw [BT.out]; rfl, by rw [HR.out, BT.out]; exact OFX.out, X.out⟩
end Go.Proofs.Ytedljddjmojeeaa
