/- Dg, Du -/
import Derived.Test.YtopamplmpfndlaaAbv
import Derived.Test.YtopamplmpfndlaaAbu
set_option maxRecDepth 100000
set_option maxHeartbeats 16000000
namespace Go.Proofs.Ytopamplmpfndlaa.Cl
open Go.RowKit
section
variable {o : Oper} {a : Act} {w : World} {K : Act → World → Prop} {Q : Exit → Act → World → Prop}
theorem ld_askr (y : Operand) (g off : Nat) (x : Ak) {w9 : World} (hv : AI w9 x) (ho : o.op = .load 33 y) (ha : a.eval y = .pointer (some ⟨g, off, none⟩)) (h : w.rangeAt g off x.C) (hk : K (a.put o.dst x.V) w) : o.wp Try.prog a w K Q := by
  obtain ⟨dd, hd⟩ : ∃ d, Try.prog.underlying 33 = some d ∧ d.isRow = true := ⟨_, Try.underlying33, rfl⟩
  exact wp_load_mid 33 y ho g off ha x.C dd h hd.1 hd.2 (by rw [Try.sizeAk, Ak.len hv]) hk
end
def tupA (i : Nat) : Value → Value
  | .tuple a => a.getD i undef
  | _ => undef
def NL : List (Nat × (Value → Value)) := [(13, id), (14, tupA 0), (15, tupA 1), (16, tupA 2), (18, tupA 0), (20, tupA 2)]
def NV (l : Array Bool) (f : Nat → Value) : Prop := ∀ p ∈ NL, l.getD p.1 false = true → f p.1 = p.2 (f 12)
theorem NV.next {l : Array Bool} {f : Nat → Value} (h : NV l f) {i : Nat} {v : Value} (hi : i ≠ 12) (hv : ∀ p ∈ NL, p.1 = i → v = p.2 (f 12)) : NV (l.setIfInBounds i true) (upd f i v) := by
  intro p hp hl
  rw [upd_ne _ _ (Ne.symm hi)]
  by_cases e : p.1 = i
  · rw [e, upd_same]; exact hv p hp e
  rw [upd_ne _ _ e]
  exact h p hp (by rw [gset (fun e2 => e e2.symm)] at hl; exact hl)
theorem NV.call {l : Array Bool} {f : Nat → Value} {v : Value} (hn : ∀ p ∈ NL, l.getD p.1 false = false) : NV (l.setIfInBounds 12 true) (upd f 12 v) := by
  intro p hp hl
  have h12 : p.1 ≠ 12 := by
    unfold NL at hp
    simp only [List.mem_cons, List.not_mem_nil, or_false] at hp
    rcases hp with rfl | rfl | rfl | rfl | rfl | rfl <;> decide
  rw [gset (fun e => h12 e.symm), hn p hp] at hl
  cases hl
theorem nl_no {i : Nat} (h : i ∉ [13, 14, 15, 16, 18, 20]) {v w : Value} : ∀ p ∈ NL, p.1 = i → v = p.2 w := by
  intro p hp e
  exfalso
  unfold NL at hp
  simp only [List.mem_cons, List.not_mem_nil, or_false] at hp h
  rcases hp with rfl | rfl | rfl | rfl | rfl | rfl <;> simp_all
theorem nl_at {i : Nat} {F : Value → Value} {v w : Value} (h : NL.filter (fun p => p.1 == i) = [(i, F)]) (hv : v = F w) : ∀ p ∈ NL, p.1 = i → v = p.2 w := by
  intro p hp e
  have h1 : p ∈ NL.filter (fun p => p.1 == i) := List.mem_filter.2 ⟨hp, by simpa using e⟩
  rw [h] at h1
  obtain rfl := List.mem_singleton.1 h1
  exact hv
structure NC (base0 base W : World) (C : Nat) (k : List UInt8) (got : List Bool) (l : Array Bool) (f : Nat → Value) : Prop where
  pre : l.getD 12 false = false → ∃ rv, CS base0 W C 0 k rv got
  wish : l.getD 12 false = false → l.getD 11 false = true → ∃ y : Wt, f 11 = y.V ∧ WI W y
  blk : l.getD 17 false = true → ∃ i, f 17 = ptr0 i ∧ base0.heap.size ≤ i ∧ (l.getD 19 false = false → Bk W i 47 zeroQt.C.toArray)
  post : l.getD 12 false = true → ∃ (r : Pt) (q : Qt) (R : List UInt8 × Qc × Int) (rv : Value), f 12 = .tuple #[r.V, q.V, .int .i64 R.2.2] ∧ (∃ (m : Int) (y : Wc), 0 ≤ m ∧ m ≤ 7 ∧ R = makeF 0 got.length k m y) ∧ r.l = R.1 ∧ q.ct = R.2.1 ∧ PN W 0 r ∧ q.Ok ∧ PN W 0 q.sec ∧ CS base0 W C 0 k rv (gotM got R) ∧ (l.getD 19 false = true → ∃ i, f 17 = ptr0 i ∧ QB W i q)
section
variable {base0 base W W' : World} {C : Nat} {k : List UInt8} {got : List Bool} {l : Array Bool} {f : Nat → Value}
theorem NC.ex (h : NC base0 base W C k got l f) {i : Nat} {v : Value} (h11 : i ≠ 11) (h12 : i ≠ 12) (h17 : i ≠ 17) (h19 : i ≠ 19) (x : Ex W W') : NC base0 base W' C k got (l.setIfInBounds i true) (upd f i v) := by
  refine ⟨fun e => ?_, fun e e2 => ?_, fun e => ?_, fun e => ?_⟩
  · rw [gset h12] at e
    obtain ⟨rv, hs⟩ := h.pre e
    exact ⟨rv, hs.ext x⟩
  · rw [gset h12] at e
    rw [gset h11] at e2
    rw [upd_ne _ _ (Ne.symm h11)]
    obtain ⟨y, a, b⟩ := h.wish e e2
    exact ⟨y, a, b.ext x⟩
  · rw [gset h17] at e
    rw [gset h19, upd_ne _ _ (Ne.symm h17)]
    obtain ⟨i, a, b, c⟩ := h.blk e
    exact ⟨i, a, b, fun e9 => (c e9).ext x⟩
  rw [gset h12] at e
  rw [gset h19, upd_ne _ _ (Ne.symm h12), upd_ne _ _ (Ne.symm h17)]
  obtain ⟨r, q, R, rv, a, b, c, d, e1, e2, e3, e4, e5⟩ := h.post e
  exact ⟨r, q, R, rv, a, b, c, d, e1.ext x, e2, e3.ext x, e4.ext x, fun e9 => (e5 e9).elim fun i hi => ⟨i, hi.1, hi.2.ext x⟩⟩
theorem NC.mkwish (h : NC base0 base W C k got l f) (x : Ex W W') (y : Wt) (hy : WI W' y) : NC base0 base W' C k got (l.setIfInBounds 11 true) (upd f 11 y.V) := by
  refine ⟨fun e => ?_, fun e e2 => ⟨y, upd_same _ _ _, hy⟩, fun e => ?_, fun e => ?_⟩
  · rw [gset (by decide)] at e
    obtain ⟨rv, hs⟩ := h.pre e
    exact ⟨rv, hs.ext x⟩
  · rw [gset (by decide)] at e
    rw [gset (by decide), upd_ne _ _ (by decide)]
    obtain ⟨i, a, b, c⟩ := h.blk e
    exact ⟨i, a, b, fun e9 => (c e9).ext x⟩
  rw [gset (by decide)] at e
  rw [gset (by decide), upd_ne _ _ (by decide), upd_ne _ _ (by decide)]
  obtain ⟨r, q, R, rv, a, b, c, d, e1, e2, e3, e4, e5⟩ := h.post e
  exact ⟨r, q, R, rv, a, b, c, d, e1.ext x, e2, e3.ext x, e4.ext x, fun e9 => (e5 e9).elim fun i hi => ⟨i, hi.1, hi.2.ext x⟩⟩
theorem NC.alloc (h : NC base0 base W C k got l f) (n19 : l.getD 19 false = false) (hb : base0.heap.size ≤ W.heap.size) : NC base0 base (W.alloc (.cells zeroQt.C.toArray 47)) C k got (l.setIfInBounds 17 true) (upd f 17 (ptr0 W.heap.size)) := by
  have x : Ex W (W.alloc (.cells zeroQt.C.toArray 47)) := Ex.alloc _ _
  refine ⟨fun e => ?_, fun e e2 => ?_, fun e => ⟨_, upd_same _ _ _, hb, fun _ => Bk.new rfl _ _⟩, fun e => ?_⟩
  · rw [gset (by decide)] at e
    obtain ⟨rv, hs⟩ := h.pre e
    exact ⟨rv, hs.ext x⟩
  · rw [gset (by decide)] at e
    rw [gset (by decide)] at e2
    rw [upd_ne _ _ (by decide)]
    obtain ⟨y, a, b⟩ := h.wish e e2
    exact ⟨y, a, b.ext x⟩
  rw [gset (by decide)] at e
  rw [gset (by decide), upd_ne _ _ (by decide)]
  obtain ⟨r, q, R, rv, a, b, c, d, e1, e2, e3, e4, e5⟩ := h.post e
  refine ⟨r, q, R, rv, a, b, c, d, e1.ext x, e2, e3.ext x, e4.ext x, fun e9 => ?_⟩
  rw [n19] at e9; cases e9
theorem NC.call (h : NC base0 base W C k got l f) (n19 : l.getD 19 false = false) (hsz : 12 < l.size) {r : Pt} {q : Qt} {R : List UInt8 × Qc × Int} {rv rv' : Value} (hs : CS base0 W C 0 k rv got) (hR : ∃ (m : Int) (y : Wc), 0 ≤ m ∧ m ≤ 7 ∧ R = makeF 0 got.length k m y) (h1 : r.l = R.1) (h2 : q.ct = R.2.1) (h3 : PN W' 0 r) (h4 : q.Ok) (h5 : PN W' 0 q.sec) (t : Tc C rv.ownBlock W W') (hc : CI W' base0.heap.size C 0 k rv' (gotM got R)) :
    NC base0 base W' C k got (l.setIfInBounds 12 true) (upd f 12 (.tuple #[r.V, q.V, .int .i64 R.2.2])) := by
  refine ⟨fun e => ?_, fun e => ?_, fun e => ?_, fun _ => ⟨r, q, R, rv', upd_same _ _ _, hR, h1, h2, h3, h4, h5, hs.tc t hc, fun e9 => ?_⟩⟩
  · exact absurd e (by rw [set_new hsz]; decide)
  · exact absurd e (by rw [set_new hsz]; decide)
  · rw [gset (by decide)] at e
    rw [gset (by decide), upd_ne _ _ (by decide)]
    obtain ⟨i, a, b, c⟩ := h.blk e
    refine ⟨i, a, b, fun e9 => ?_⟩
    have hb := c e9
    refine t.bk hb ?_ (ownB_ne hs.c.row hb (by decide))
    rintro rfl
    exact absurd (Bk.ty hb hs.c.blk) (by decide)
  rw [gset (by decide), n19] at e9; cases e9
end
theorem NC.store {base0 base W W' : World} {C : Nat} {k : List UInt8} {got : List Bool} {l : Array Bool} {f : Nat → Value} {v : Value} (h : NC base0 base W C k got l f) (n19 : l.getD 19 false = false) (l12 : l.getD 12 false = true) (l17 : l.getD 17 false = true) (hsz : 19 < l.size)
    {r : Pt} {q : Qt} {i : Nat} {R : List UInt8 × Qc × Int} {rv : Value} (he : f 12 = .tuple #[r.V, q.V, .int .i64 R.2.2]) (hR : ∃ (m : Int) (y : Wc), 0 ≤ m ∧ m ≤ 7 ∧ R = makeF 0 got.length k m y) (h1 : r.l = R.1) (h2 : q.ct = R.2.1) (h3 : PN W 0 r) (h4 : q.Ok) (h5 : PN W 0 q.sec) (hs : CS base0 W C 0 k rv (gotM got R))
    (hi : f 17 = ptr0 i) (hlo : base0.heap.size ≤ i) (hB : Bk W i 47 zeroQt.C.toArray) (hd : QB W' i q) (ho : Only i W W') : NC base0 base W' C k got (l.setIfInBounds 19 true) (upd f 19 v) := by
  refine ⟨fun e => ?_, fun e => ?_, fun e => ⟨i, by rw [upd_ne _ _ (by decide)]; exact hi, hlo, fun e9 => ?_⟩, fun _ => ⟨r, q, R, rv, by rw [upd_ne _ _ (by decide)]; exact he, hR, h1, h2, h3.onlyT ho hB (by decide), h4, h5.onlyT ho hB (by decide), ⟨?_, hs.c.only9 ho hB (by decide) (by decide)⟩, fun _ => ⟨i, by rw [upd_ne _ _ (by decide)]; exact hi, hd⟩⟩⟩
  · rw [gset (by decide), l12] at e; cases e
  · rw [gset (by decide), l12] at e; cases e
  · exact absurd e9 (by rw [set_new hsz]; decide)
  exact ho.below base0.heap.size hlo _ hs.x
theorem waits_none (n : Nat) : waits (List.replicate n false) = n := by
  unfold waits
  rw [List.countP_replicate]; rfl
theorem seed_close (n : Int) (n0 : 0 ≤ n) (n1 : n < 18446744073709551616) (kl : List UInt8) (b : UInt8) (t : List UInt8) : (Sm.beV ((Sm.closeL kl n b t).take 8) : Int) = n := by
  rw [Sm.close_take]
  exact Sm.beV_num n n0 n1
theorem nums22_any (k : List UInt8) (hk : k.length = 16) (ad : Option Addr) (cap : Nat) (l : List Ak) (hL : l.length ≤ 9223372036854775807) (w : World) (hin : Akp w ad cap l) : Calls Try.prog 7 #[digV k, .slice ad l.length cap] w fun e w' => e = .returned (.bool true) ∧ Ex w w' := by
  obtain ⟨ds, hds⟩ : ∃ ds, ds = (Lib.byteCells k).toArray := ⟨_, rfl⟩
  obtain ⟨lm, hlm⟩ : ∃ m, m = l.length := ⟨_, rfl⟩
  have D0 : Hid (Bk (w.alloc (.cells ds 36)) w.heap.size 36 (Lib.byteCells k).toArray) := Hi (by rw [← hds]; exact Bk.new rfl _ _)
  have BW : Hid (Ex w (w.alloc (.cells ds 36))) := Hi (Ex.alloc _ _)
  have HK := Hi hk
  have HIN := Hi hin
  have LM := Hi hlm
  rw [show (Calls Try.prog 7 #[digV k, .slice ad l.length cap] w) = (Calls Try.prog 7 #[.agg ds, .slice ad lm cap] w) by rw [hds, hlm]; rfl]
  rw [← hlm] at hL
  clear hds hk hin hlm
  go_enter Try.func7, Try.ntmps7
  go_wp2_with ((with_reducible refine so7 [36] ?_ ?_); (focus rfl))
  (with_reducible refine ⟨?_⟩)
  change wpList _ _ _ _ _ (w.alloc (.cells ds 36))
  generalize (w.alloc (.cells ds 36)) = wz at *
  obtain ⟨g, hg⟩ : ∃ i, i = w.heap.size := ⟨_, rfl⟩
  rw [← hg] at D0 ⊢
  clear hg
  (with_reducible refine at_any ?_ ?_); (focus go_simp); refine fun K0 hK => ld_dgb _ g k rfl rfl HK.out D0.out (hK _ _ ?_)
  clear hK
  go_wp2_with ((with_reducible refine so7 [1000 + 4] ?_ ?_); (focus rfl))
  refine (new_any 0 k HK.out wz).mono ?_
  rintro e w1 ⟨x1, ⟨h, _⟩ | ⟨_, C, rfl, ci⟩⟩
  · exact absurd ⟨by decide, by decide⟩ h
  have S0 : Hid (CS wz w1 C 0 k (.slice none 0 0) (List.replicate 0 false)) := Hi ⟨x1, ci⟩
  clear ci x1
  go_wp2_with fail
  go_loopw [7, 8] (fun n i wq => ∃ (j m : Nat) (rv : Value), j ≤ lm ∧ j ≤ 40 ∧ m ≤ j ∧ n = .int .u64 m ∧ i = .int .i64 j ∧ Hid (CS wz wq C 0 k rv (List.replicate m false))) (fun _ i _ => 40 - (intOf i).toNat)
  case atStart => exact ⟨0, 0, _, by omega, by omega, by omega, rfl, rfl, S0⟩
  clear S0
  obtain ⟨j, m, rv, hj, hj4, hm, rfl, rfl, S⟩ := hrel
  by_cases hlt : j < lm ∧ j < 40
  rotate_left
  · have q5 : ¬ ((j : Int) < (lm : Int) ∧ (j : Int) < 40) := by omega
    have q6 : (j : Int) < (lm : Int) → ¬ (j : Int) < 40 := by omega
    by_cases h6 : j < lm
    · have q7 : (j : Int) < (lm : Int) := by omega
      have q8 : ¬ (j : Int) < 40 := by omega
      go_wp2_with ((with_reducible refine so7 [1000 + 4] ?_ ?_); (focus rfl))
      refine (known22_any _).mono ?_
      rintro e wd ⟨rfl, x5⟩
      go_wp2_with fail
      go_ret
      exact ⟨rfl, BW.out.trans (S.out.x.trans x5)⟩
    have q7 : ¬ (j : Int) < (lm : Int) := by omega
    go_wp2_with ((with_reducible refine so7 [1000 + 4] ?_ ?_); (focus rfl))
    refine (known22_any _).mono ?_
    rintro e wd ⟨rfl, x5⟩
    go_wp2_with fail
    go_ret
    exact ⟨rfl, BW.out.trans (S.out.x.trans x5)⟩
  obtain ⟨h1, h2⟩ := hlt
  obtain ⟨ab, ofs, rfl, ha, hc⟩ := HIN.out.read (by rw [← LM.out]; omega)
  obtain ⟨x, hx⟩ : ∃ x, l[j]? = some x := ⟨_, List.getElem?_eq_getElem (by rw [← LM.out]; exact h1)⟩
  have XI := Hi (HIN.out.ins j x hx)
  have XR := Hi (hc j x hx)
  have HA := Hi ha
  have hmem0 := hc j x hx 2 (.int .i64 x.member) rfl
  have HM2 := Hi hmem0
  have MB := Hi XI.out.member
  clear hc hx ha hmem0
  have q0 : (0 : Int) ≤ (j : Int) := by omega
  have q1 : (j : Int) < (lm : Int) := by omega
  have q2 : (j : Int) < 40 := by omega
  go_wp2_with fail
  have hS0 : ∀ (listed : Array Bool) (f : Nat → Value) (wx : World), Ex wr wx → (∀ i, listed.getD i false = false) → (fun (l : Array Bool) (f : Nat → Value) (W : World) => NV l f ∧ NC wz wr W C k (List.replicate m false) l f) listed f wx := fun listed f wx hx h0 => ⟨fun p _ e => absurd e (by rw [h0]; decide), ⟨fun _ => ⟨rv, S.out.ext hx⟩, fun _ e => absurd e (by rw [h0]; decide), fun e => absurd e (by rw [h0]; decide), fun e => absurd e (by rw [h0]; decide)⟩⟩
  replace hS0 := fun listed f h => hS0 listed f wr.drew (ex_drewN wr 1) h
  obtain ⟨T, hT⟩ : ∃ T : List (Value → Prop), T = [(fun zz => zz = .pointer (some ⟨C, 0, none⟩)), (fun zz => zz = .slice (some ⟨ab, ofs, none⟩) lm cap), (fun zz => zz = .int .i64 (j : Int)), (fun zz => zz = .pointer (some ⟨ab, ofs + j * 30, none⟩)), (fun zz => zz = .pointer (some ⟨ab, ofs + j * 30 + 2, none⟩)), (fun zz => zz = .int .i64 x.member), (fun zz => ∃ m : Int, zz = .int .i64 m ∧ 0 ≤ m ∧ m ≤ 7), (fun zz => zz = .slice (some ⟨ab, ofs, none⟩) lm cap), (fun zz => zz = .int .i64 (j : Int)), (fun zz => zz = .pointer (some ⟨ab, ofs + j * 30, none⟩)), (fun zz => zz = x.V), (fun _ => True), (fun zz => ∃ (r q : Value) (E : Int), zz = .tuple #[r, q, .int .i64 E]), (fun zz => ∃ (r q : Value) (E : Int), zz = .tuple #[r, q, .int .i64 E]), (fun _ => True), (fun _ => True), (fun _ => True), (fun _ => True), (fun _ => True), (fun _ => True), (fun _ => True)] := ⟨_, rfl⟩
  refine wp_region_gen (JS T ([(12, 6), (12, 11), (6, 5), (11, 10), (13, 12), (14, 13), (15, 13), (16, 13), (18, 14), (20, 16), (19, 15), (19, 17)] : List (Nat × Nat)) (fun (l : Array Bool) (f : Nat → Value) (W : World) => NV l f ∧ NC wz wr W C k (List.replicate m false) l f)) (by kernel_rfl) (by kernel_rfl) (by kernel_rfl) (fitB_spec (by kernel_rfl)) (fun listed f h => JS.start listed f h (hS0 listed f h)) ?_ ?_
  · intro i o ho
    have hi : i < 21 := (Array.getElem?_eq_some_iff.1 ho).1
    have hi' : i = 0 ∨ i = 1 ∨ i = 2 ∨ i = 3 ∨ i = 4 ∨ i = 5 ∨ i = 6 ∨ i = 7 ∨ i = 8 ∨ i = 9 ∨ i = 10 ∨ i = 11 ∨ i = 12 ∨ i = 13 ∨ i = 14 ∨ i = 15 ∨ i = 16 ∨ i = 17 ∨ i = 18 ∨ i = 19 ∨ i = 20 := by omega
    clear hi
    rcases hi' with rfl | rfl | rfl | rfl | rfl | rfl | rfl | rfl | rfl | rfl | rfl | rfl | rfl | rfl | rfl | rfl | rfl | rfl | rfl | rfl | rfl
    all_goals (simp only [List.getElem?_toArray, List.getElem?_cons_zero, List.getElem?_cons_succ, Option.some.injEq] at ho; subst ho; intro listed f a w2 hJ hsz hls hun hdep hout hlat; first | (rw [if_pos (by rfl)]; intro K hK) | skip)
    · have q5 := hout 5 ob
      have hord : ∀ x ∈ ([(12, 6), (12, 11), (6, 5), (11, 10), (13, 12), (14, 13), (15, 13), (16, 13), (18, 14), (20, 16), (19, 15), (19, 17)] : List (Nat × Nat)), x.1 = 0 → listed.getD x.2 false = true := (by intro x hx he; simp only [List.mem_cons, List.not_mem_nil, or_false] at hx; rcases hx with rfl | rfl | rfl | rfl | rfl | rfl | rfl | rfl | rfl | rfl | rfl | rfl; all_goals first | (exact absurd he (by decide)) | assumption)
      exact wp_mw _ rfl q5 (hK _ _ (hJ.nx hls hT rfl rfl ⟨NV.next hJ.st.1 (by decide) (nl_no (by decide)), NC.ex hJ.st.2 (by decide) (by decide) (by decide) (by decide) (Ex.refl _)⟩ hord))
    · have q1 := hout 1 ob
      have hord : ∀ x ∈ ([(12, 6), (12, 11), (6, 5), (11, 10), (13, 12), (14, 13), (15, 13), (16, 13), (18, 14), (20, 16), (19, 15), (19, 17)] : List (Nat × Nat)), x.1 = 1 → listed.getD x.2 false = true := (by intro x hx he; simp only [List.mem_cons, List.not_mem_nil, or_false] at hx; rcases hx with rfl | rfl | rfl | rfl | rfl | rfl | rfl | rfl | rfl | rfl | rfl | rfl; all_goals first | (exact absurd he (by decide)) | assumption)
      exact wp_mw _ rfl q1 (hK _ _ (hJ.nx hls hT rfl rfl ⟨NV.next hJ.st.1 (by decide) (nl_no (by decide)), NC.ex hJ.st.2 (by decide) (by decide) (by decide) (by decide) (Ex.refl _)⟩ hord))
    · have q8 := hout 8 ob
      have hord : ∀ x ∈ ([(12, 6), (12, 11), (6, 5), (11, 10), (13, 12), (14, 13), (15, 13), (16, 13), (18, 14), (20, 16), (19, 15), (19, 17)] : List (Nat × Nat)), x.1 = 2 → listed.getD x.2 false = true := (by intro x hx he; simp only [List.mem_cons, List.not_mem_nil, or_false] at hx; rcases hx with rfl | rfl | rfl | rfl | rfl | rfl | rfl | rfl | rfl | rfl | rfl | rfl; all_goals first | (exact absurd he (by decide)) | assumption)
      exact wp_mw _ rfl q8 (hK _ _ (hJ.nx hls hT rfl rfl ⟨NV.next hJ.st.1 (by decide) (nl_no (by decide)), NC.ex hJ.st.2 (by decide) (by decide) (by decide) (by decide) (Ex.refl _)⟩ hord))
    · have q35 := hJ.is hT (hdep ⟨1, .data⟩ (by simp) rfl) rfl _ rfl _ rfl
      have q36 := hJ.is hT (hdep ⟨2, .data⟩ (by simp) rfl) rfl _ rfl _ rfl
      have hord : ∀ x ∈ ([(12, 6), (12, 11), (6, 5), (11, 10), (13, 12), (14, 13), (15, 13), (16, 13), (18, 14), (20, 16), (19, 15), (19, 17)] : List (Nat × Nat)), x.1 = 3 → listed.getD x.2 false = true := (by intro x hx he; simp only [List.mem_cons, List.not_mem_nil, or_false] at hx; rcases hx with rfl | rfl | rfl | rfl | rfl | rfl | rfl | rfl | rfl | rfl | rfl | rfl; all_goals first | (exact absurd he (by decide)) | assumption)
      rw [gd9] at q35
      rw [gd9] at q36
      clear hsz hdep hout hlat
      go_simp
      exact hK _ _ (hJ.nx hls hT rfl (by first | rfl | (simp; done)) ⟨NV.next hJ.st.1 (by decide) (nl_no (by decide)), NC.ex hJ.st.2 (by decide) (by decide) (by decide) (by decide) (Ex.refl _)⟩ hord)
    · have q37 := hJ.is hT (hdep ⟨3, .data⟩ (by simp) rfl) rfl _ rfl _ rfl
      have hord : ∀ x ∈ ([(12, 6), (12, 11), (6, 5), (11, 10), (13, 12), (14, 13), (15, 13), (16, 13), (18, 14), (20, 16), (19, 15), (19, 17)] : List (Nat × Nat)), x.1 = 4 → listed.getD x.2 false = true := (by intro x hx he; simp only [List.mem_cons, List.not_mem_nil, or_false] at hx; rcases hx with rfl | rfl | rfl | rfl | rfl | rfl | rfl | rfl | rfl | rfl | rfl | rfl; all_goals first | (exact absurd he (by decide)) | assumption)
      rw [gd9] at q37
      clear hsz hdep hout hlat
      go_simp
      exact hK _ _ (hJ.nx hls hT rfl (by first | rfl | exact congrArg (Value.int .i64) (by omega) | exact congrArg (Value.int .i64) (by rw [IntKind.wrap_i64]; omega) | exact congrArg Value.bool (decide_eq_false (by omega)) | exact congrArg Value.bool (decide_eq_true (by omega)) | exact congrArg (Value.int .u64) (by omega)) ⟨NV.next hJ.st.1 (by decide) (nl_no (by decide)), NC.ex hJ.st.2 (by decide) (by decide) (by decide) (by decide) (Ex.refl _)⟩ hord)
    · have q38 := hJ.is hT (hdep ⟨4, .data⟩ (by simp) rfl) rfl _ rfl _ rfl
      have hord : ∀ x ∈ ([(12, 6), (12, 11), (6, 5), (11, 10), (13, 12), (14, 13), (15, 13), (16, 13), (18, 14), (20, 16), (19, 15), (19, 17)] : List (Nat × Nat)), x.1 = 5 → listed.getD x.2 false = true := (by intro x hx he; simp only [List.mem_cons, List.not_mem_nil, or_false] at hx; rcases hx with rfl | rfl | rfl | rfl | rfl | rfl | rfl | rfl | rfl | rfl | rfl | rfl; all_goals first | (exact absurd he (by decide)) | assumption)
      have n9 : listed.getD 6 false = false := by
        cases hc : listed.getD 6 false with
        | false => rfl
        | true => exact absurd (hJ.ord (6, 5) (by simp) hc) (by rw [hun]; decide)
      have n12 : listed.getD 12 false = false := by
        cases hc : listed.getD 12 false with
        | false => rfl
        | true => exact absurd (hJ.ord (12, 6) (by simp) hc) (by rw [n9]; decide)
      rw [gd9] at q38
      obtain ⟨rv9, cs9⟩ := hJ.st.2.pre n12
      have c6 : w2.cell? ⟨ab, ofs + j * 30 + 2, none⟩ = some (.int .i64 x.member) := (Below.cell (p := ⟨ab, ofs + j * 30 + 2, none⟩) (BW.out.trans cs9.x) HA.out).trans HM2.out
      clear hsz hdep hout hlat cs9
      go_simp
      exact hK _ _ (hJ.nx hls hT rfl rfl ⟨NV.next hJ.st.1 (by decide) (nl_no (by decide)), NC.ex hJ.st.2 (by decide) (by decide) (by decide) (by decide) (Ex.refl _)⟩ hord)
    · have q39 := hJ.is hT (hdep ⟨5, .data⟩ (by simp) rfl) rfl _ rfl _ rfl
      have hl5 := (hdep ⟨5, .data⟩ (by simp) rfl).1
      have hord : ∀ x ∈ ([(12, 6), (12, 11), (6, 5), (11, 10), (13, 12), (14, 13), (15, 13), (16, 13), (18, 14), (20, 16), (19, 15), (19, 17)] : List (Nat × Nat)), x.1 = 6 → listed.getD x.2 false = true := (by intro x hx he; simp only [List.mem_cons, List.not_mem_nil, or_false] at hx; rcases hx with rfl | rfl | rfl | rfl | rfl | rfl | rfl | rfl | rfl | rfl | rfl | rfl; all_goals first | (exact absurd he (by decide)) | assumption)
      have n12 : listed.getD 12 false = false := by
        cases hc : listed.getD 12 false with
        | false => rfl
        | true => exact absurd (hJ.ord (12, 6) (by simp) hc) (by rw [hun]; decide)
      rw [gd9] at q39
      clear hsz hdep hout hlat
      go_simp
      refine (within_any x.member 0 7 MB.out (by decide) (by decide) (by decide) w2).mono ?_
      rintro e w3 ⟨m9, rfl, lo, hi, rfl⟩
      exact hK _ _ (hJ.nx hls hT rfl (by exact ⟨m9, rfl, lo, hi⟩) ⟨NV.next hJ.st.1 (by decide) (nl_no (by decide)), NC.ex hJ.st.2 (by decide) (by decide) (by decide) (by decide) (Ex.refl _)⟩ hord)
    · have q1 := hout 1 ob
      have hord : ∀ x ∈ ([(12, 6), (12, 11), (6, 5), (11, 10), (13, 12), (14, 13), (15, 13), (16, 13), (18, 14), (20, 16), (19, 15), (19, 17)] : List (Nat × Nat)), x.1 = 7 → listed.getD x.2 false = true := (by intro x hx he; simp only [List.mem_cons, List.not_mem_nil, or_false] at hx; rcases hx with rfl | rfl | rfl | rfl | rfl | rfl | rfl | rfl | rfl | rfl | rfl | rfl; all_goals first | (exact absurd he (by decide)) | assumption)
      exact wp_mw _ rfl q1 (hK _ _ (hJ.nx hls hT rfl rfl ⟨NV.next hJ.st.1 (by decide) (nl_no (by decide)), NC.ex hJ.st.2 (by decide) (by decide) (by decide) (by decide) (Ex.refl _)⟩ hord))
    · have q8 := hout 8 ob
      have hord : ∀ x ∈ ([(12, 6), (12, 11), (6, 5), (11, 10), (13, 12), (14, 13), (15, 13), (16, 13), (18, 14), (20, 16), (19, 15), (19, 17)] : List (Nat × Nat)), x.1 = 8 → listed.getD x.2 false = true := (by intro x hx he; simp only [List.mem_cons, List.not_mem_nil, or_false] at hx; rcases hx with rfl | rfl | rfl | rfl | rfl | rfl | rfl | rfl | rfl | rfl | rfl | rfl; all_goals first | (exact absurd he (by decide)) | assumption)
      exact wp_mw _ rfl q8 (hK _ _ (hJ.nx hls hT rfl rfl ⟨NV.next hJ.st.1 (by decide) (nl_no (by decide)), NC.ex hJ.st.2 (by decide) (by decide) (by decide) (by decide) (Ex.refl _)⟩ hord))
    · have q41 := hJ.is hT (hdep ⟨7, .data⟩ (by simp) rfl) rfl _ rfl _ rfl
      have q42 := hJ.is hT (hdep ⟨8, .data⟩ (by simp) rfl) rfl _ rfl _ rfl
      have hord : ∀ x ∈ ([(12, 6), (12, 11), (6, 5), (11, 10), (13, 12), (14, 13), (15, 13), (16, 13), (18, 14), (20, 16), (19, 15), (19, 17)] : List (Nat × Nat)), x.1 = 9 → listed.getD x.2 false = true := (by intro x hx he; simp only [List.mem_cons, List.not_mem_nil, or_false] at hx; rcases hx with rfl | rfl | rfl | rfl | rfl | rfl | rfl | rfl | rfl | rfl | rfl | rfl; all_goals first | (exact absurd he (by decide)) | assumption)
      rw [gd9] at q41
      rw [gd9] at q42
      clear hsz hdep hout hlat
      go_simp
      exact hK _ _ (hJ.nx hls hT rfl (by first | rfl | (simp; done)) ⟨NV.next hJ.st.1 (by decide) (nl_no (by decide)), NC.ex hJ.st.2 (by decide) (by decide) (by decide) (by decide) (Ex.refl _)⟩ hord)
    · have q43 := hJ.is hT (hdep ⟨9, .data⟩ (by simp) rfl) rfl _ rfl _ rfl
      have hord : ∀ x ∈ ([(12, 6), (12, 11), (6, 5), (11, 10), (13, 12), (14, 13), (15, 13), (16, 13), (18, 14), (20, 16), (19, 15), (19, 17)] : List (Nat × Nat)), x.1 = 10 → listed.getD x.2 false = true := (by intro x hx he; simp only [List.mem_cons, List.not_mem_nil, or_false] at hx; rcases hx with rfl | rfl | rfl | rfl | rfl | rfl | rfl | rfl | rfl | rfl | rfl | rfl; all_goals first | (exact absurd he (by decide)) | assumption)
      have n9 : listed.getD 11 false = false := by
        cases hc : listed.getD 11 false with
        | false => rfl
        | true => exact absurd (hJ.ord (11, 10) (by simp) hc) (by rw [hun]; decide)
      have n12 : listed.getD 12 false = false := by
        cases hc : listed.getD 12 false with
        | false => rfl
        | true => exact absurd (hJ.ord (12, 11) (by simp) hc) (by rw [n9]; decide)
      obtain ⟨rv9, cs9⟩ := hJ.st.2.pre n12
      exact ld_askr (.tmp 43) ab (ofs + j * 30) x XI.out rfl q43 (fun i u hu => (Below.cell (p := ⟨ab, ofs + j * 30 + i, none⟩) (BW.out.trans cs9.x) HA.out).trans (XR.out i u hu)) (hK _ _ (hJ.nx hls hT rfl rfl ⟨NV.next hJ.st.1 (by decide) (nl_no (by decide)), NC.ex hJ.st.2 (by decide) (by decide) (by decide) (by decide) (Ex.refl _)⟩ hord))
    · have q44 := hJ.is hT (hdep ⟨10, .data⟩ (by simp) rfl) rfl _ rfl _ rfl
      have hl10 := (hdep ⟨10, .data⟩ (by simp) rfl).1
      have hord : ∀ x ∈ ([(12, 6), (12, 11), (6, 5), (11, 10), (13, 12), (14, 13), (15, 13), (16, 13), (18, 14), (20, 16), (19, 15), (19, 17)] : List (Nat × Nat)), x.1 = 11 → listed.getD x.2 false = true := (by intro x hx he; simp only [List.mem_cons, List.not_mem_nil, or_false] at hx; rcases hx with rfl | rfl | rfl | rfl | rfl | rfl | rfl | rfl | rfl | rfl | rfl | rfl; all_goals first | (exact absurd he (by decide)) | assumption)
      have n12 : listed.getD 12 false = false := by
        cases hc : listed.getD 12 false with
        | false => rfl
        | true => exact absurd (hJ.ord (12, 11) (by simp) hc) (by rw [hun]; decide)
      obtain ⟨rv9, cs9⟩ := hJ.st.2.pre n12
      have AX := Hi (XI.out.ext (BW.out.trans cs9.x))
      rw [gd9] at q44
      clear hsz hdep hout hlat cs9
      go_simp
      refine (wish_any x w2 AX.out).mono ?_
      rintro e w3 ⟨y9, rfl, yi, x3⟩
      exact hK _ _ (hJ.nx hls hT rfl (by exact trivial) ⟨NV.next hJ.st.1 (by decide) (nl_no (by decide)), NC.mkwish hJ.st.2 x3 y9 yi⟩ hord)
    · have q34 := hJ.is hT (hdep ⟨0, .data⟩ (by simp) rfl) rfl _ rfl _ rfl
      have dd40 := hdep ⟨6, .data⟩ (by simp) rfl
      have q40 := dd40.2 _ rfl _ rfl
      have h40 := hJ.vals 6 dd40.1
      rw [hT] at h40
      have h40 : (fun zz => ∃ m : Int, zz = .int .i64 m ∧ 0 ≤ m ∧ m ≤ 7) (f 6) := h40
      obtain ⟨m40, e40, lo40, hi40⟩ := h40
      rw [e40] at q40
      clear e40
      clear dd40
      have dd45 := hdep ⟨11, .data⟩ (by simp) rfl
      have q45 := dd45.2 _ rfl _ rfl
      have hl6 := (hdep ⟨6, .data⟩ (by simp) rfl).1
      have hl11 := (hdep ⟨11, .data⟩ (by simp) rfl).1
      have hord : ∀ x ∈ ([(12, 6), (12, 11), (6, 5), (11, 10), (13, 12), (14, 13), (15, 13), (16, 13), (18, 14), (20, 16), (19, 15), (19, 17)] : List (Nat × Nat)), x.1 = 12 → listed.getD x.2 false = true := (by intro x hx he; simp only [List.mem_cons, List.not_mem_nil, or_false] at hx; rcases hx with rfl | rfl | rfl | rfl | rfl | rfl | rfl | rfl | rfl | rfl | rfl | rfl; all_goals first | (exact absurd he (by decide)) | assumption)
      have n13 : listed.getD 13 false = false := by
        cases hc : listed.getD 13 false with
        | false => rfl
        | true => exact absurd (hJ.ord (13, 12) (by simp) hc) (by rw [hun]; decide)
      have n14 : listed.getD 14 false = false := by
        cases hc : listed.getD 14 false with
        | false => rfl
        | true => exact absurd (hJ.ord (14, 13) (by simp) hc) (by rw [n13]; decide)
      have n15 : listed.getD 15 false = false := by
        cases hc : listed.getD 15 false with
        | false => rfl
        | true => exact absurd (hJ.ord (15, 13) (by simp) hc) (by rw [n13]; decide)
      have n16 : listed.getD 16 false = false := by
        cases hc : listed.getD 16 false with
        | false => rfl
        | true => exact absurd (hJ.ord (16, 13) (by simp) hc) (by rw [n13]; decide)
      have n18 : listed.getD 18 false = false := by
        cases hc : listed.getD 18 false with
        | false => rfl
        | true => exact absurd (hJ.ord (18, 14) (by simp) hc) (by rw [n14]; decide)
      have n20 : listed.getD 20 false = false := by
        cases hc : listed.getD 20 false with
        | false => rfl
        | true => exact absurd (hJ.ord (20, 16) (by simp) hc) (by rw [n16]; decide)
      have n19 : listed.getD 19 false = false := by
        cases hc : listed.getD 19 false with
        | false => rfl
        | true => exact absurd (hJ.ord (19, 15) (by simp) hc) (by rw [n15]; decide)
      have l11 := (hdep ⟨11, .data⟩ (by simp) rfl).1
      obtain ⟨rv9, cs9⟩ := hJ.st.2.pre hun
      obtain ⟨y9, e9, yi⟩ := hJ.st.2.wish hun l11
      rw [e9] at q45
      rw [gd9] at q34
      rw [gd9] at q40
      rw [gd9] at q45
      clear hsz hdep hout hlat
      go_simp
      refine (make_any wz.heap.size C 0 k rv9 (List.replicate m false) m40 y9 w2 cs9.c (by rw [List.length_replicate]; omega) yi).mono ?_
      intro e w3 h9
      obtain ⟨⟨r, q, rfl, rl, rn, ⟨qo, qn⟩, qc⟩, rv', tc, ci, _⟩ := h9.both cs9.c
      exact hK _ _ (hJ.nx hls hT rfl (by exact ⟨_, _, _, rfl⟩) ⟨NV.call (by intro p hp; unfold NL at hp; simp only [List.mem_cons, List.not_mem_nil, or_false] at hp; rcases hp with rfl | rfl | rfl | rfl | rfl | rfl <;> assumption), NC.call hJ.st.2 n19 (by rw [hls]; decide) cs9 ⟨m40, y9.ct, lo40, hi40, rfl⟩ rl qc rn qo qn tc ci⟩ hord)
    · have dd46 := hdep ⟨12, .data⟩ (by simp) rfl
      have q46 := dd46.2 _ rfl _ rfl
      have h46 := hJ.vals 12 dd46.1
      rw [hT] at h46
      have h46 : (fun zz => ∃ (r q : Value) (E : Int), zz = .tuple #[r, q, .int .i64 E]) (f 12) := h46
      clear dd46
      have hl12 := (hdep ⟨12, .data⟩ (by simp) rfl).1
      have hord : ∀ x ∈ ([(12, 6), (12, 11), (6, 5), (11, 10), (13, 12), (14, 13), (15, 13), (16, 13), (18, 14), (20, 16), (19, 15), (19, 17)] : List (Nat × Nat)), x.1 = 13 → listed.getD x.2 false = true := (by intro x hx he; simp only [List.mem_cons, List.not_mem_nil, or_false] at hx; rcases hx with rfl | rfl | rfl | rfl | rfl | rfl | rfl | rfl | rfl | rfl | rfl | rfl; all_goals first | (exact absurd he (by decide)) | assumption)
      exact wp_mw _ rfl q46 (hK _ _ (hJ.nx hls hT rfl (by exact h46) ⟨NV.next hJ.st.1 (by decide) (nl_at (F := id) rfl rfl), NC.ex hJ.st.2 (by decide) (by decide) (by decide) (by decide) (Ex.refl _)⟩ hord))
    · have dd33 := hdep ⟨13, .data⟩ (by simp) rfl
      have q33 := dd33.2 _ rfl _ rfl
      have h33 := hJ.vals 13 dd33.1
      rw [hT] at h33
      have h33 : (fun zz => ∃ (r q : Value) (E : Int), zz = .tuple #[r, q, .int .i64 E]) (f 13) := h33
      clear dd33
      have hl13 := (hdep ⟨13, .data⟩ (by simp) rfl).1
      have hord : ∀ x ∈ ([(12, 6), (12, 11), (6, 5), (11, 10), (13, 12), (14, 13), (15, 13), (16, 13), (18, 14), (20, 16), (19, 15), (19, 17)] : List (Nat × Nat)), x.1 = 14 → listed.getD x.2 false = true := (by intro x hx he; simp only [List.mem_cons, List.not_mem_nil, or_false] at hx; rcases hx with rfl | rfl | rfl | rfl | rfl | rfl | rfl | rfl | rfl | rfl | rfl | rfl; all_goals first | (exact absurd he (by decide)) | assumption)
      have l13 := (hdep ⟨13, .data⟩ (by simp) rfl).1
      have e13 : f 13 = f 12 := hJ.st.1 (13, id) (by simp [NL]) l13
      obtain ⟨r9, qv9, E9, e9⟩ := h33
      rw [e9] at q33
      rw [gd9] at q33
      clear hsz hdep hout hlat
      go_simp
      exact hK _ _ (hJ.nx hls hT rfl (by exact trivial) ⟨NV.next hJ.st.1 (by decide) (nl_at (F := tupA 0) rfl (by rw [← e13, e9]; rfl)), NC.ex hJ.st.2 (by decide) (by decide) (by decide) (by decide) (Ex.refl _)⟩ hord)
    · have dd33 := hdep ⟨13, .data⟩ (by simp) rfl
      have q33 := dd33.2 _ rfl _ rfl
      have h33 := hJ.vals 13 dd33.1
      rw [hT] at h33
      have h33 : (fun zz => ∃ (r q : Value) (E : Int), zz = .tuple #[r, q, .int .i64 E]) (f 13) := h33
      clear dd33
      have hl13 := (hdep ⟨13, .data⟩ (by simp) rfl).1
      have hord : ∀ x ∈ ([(12, 6), (12, 11), (6, 5), (11, 10), (13, 12), (14, 13), (15, 13), (16, 13), (18, 14), (20, 16), (19, 15), (19, 17)] : List (Nat × Nat)), x.1 = 15 → listed.getD x.2 false = true := (by intro x hx he; simp only [List.mem_cons, List.not_mem_nil, or_false] at hx; rcases hx with rfl | rfl | rfl | rfl | rfl | rfl | rfl | rfl | rfl | rfl | rfl | rfl; all_goals first | (exact absurd he (by decide)) | assumption)
      have l13 := (hdep ⟨13, .data⟩ (by simp) rfl).1
      have e13 : f 13 = f 12 := hJ.st.1 (13, id) (by simp [NL]) l13
      obtain ⟨r9, qv9, E9, e9⟩ := h33
      rw [e9] at q33
      rw [gd9] at q33
      clear hsz hdep hout hlat
      go_simp
      exact hK _ _ (hJ.nx hls hT rfl (by exact trivial) ⟨NV.next hJ.st.1 (by decide) (nl_at (F := tupA 1) rfl (by rw [← e13, e9]; rfl)), NC.ex hJ.st.2 (by decide) (by decide) (by decide) (by decide) (Ex.refl _)⟩ hord)
    · have dd33 := hdep ⟨13, .data⟩ (by simp) rfl
      have q33 := dd33.2 _ rfl _ rfl
      have h33 := hJ.vals 13 dd33.1
      rw [hT] at h33
      have h33 : (fun zz => ∃ (r q : Value) (E : Int), zz = .tuple #[r, q, .int .i64 E]) (f 13) := h33
      clear dd33
      have hl13 := (hdep ⟨13, .data⟩ (by simp) rfl).1
      have hord : ∀ x ∈ ([(12, 6), (12, 11), (6, 5), (11, 10), (13, 12), (14, 13), (15, 13), (16, 13), (18, 14), (20, 16), (19, 15), (19, 17)] : List (Nat × Nat)), x.1 = 16 → listed.getD x.2 false = true := (by intro x hx he; simp only [List.mem_cons, List.not_mem_nil, or_false] at hx; rcases hx with rfl | rfl | rfl | rfl | rfl | rfl | rfl | rfl | rfl | rfl | rfl | rfl; all_goals first | (exact absurd he (by decide)) | assumption)
      have l13 := (hdep ⟨13, .data⟩ (by simp) rfl).1
      have e13 : f 13 = f 12 := hJ.st.1 (13, id) (by simp [NL]) l13
      obtain ⟨r9, qv9, E9, e9⟩ := h33
      rw [e9] at q33
      rw [gd9] at q33
      clear hsz hdep hout hlat
      go_simp
      exact hK _ _ (hJ.nx hls hT rfl (by exact trivial) ⟨NV.next hJ.st.1 (by decide) (nl_at (F := tupA 2) rfl (by rw [← e13, e9]; rfl)), NC.ex hJ.st.2 (by decide) (by decide) (by decide) (by decide) (Ex.refl _)⟩ hord)
    · have hord : ∀ x ∈ ([(12, 6), (12, 11), (6, 5), (11, 10), (13, 12), (14, 13), (15, 13), (16, 13), (18, 14), (20, 16), (19, 15), (19, 17)] : List (Nat × Nat)), x.1 = 17 → listed.getD x.2 false = true := (by intro x hx he; simp only [List.mem_cons, List.not_mem_nil, or_false] at hx; rcases hx with rfl | rfl | rfl | rfl | rfl | rfl | rfl | rfl | rfl | rfl | rfl | rfl; all_goals first | (exact absurd he (by decide)) | assumption)
      have n19 : listed.getD 19 false = false := by
        cases hc : listed.getD 19 false with
        | false => rfl
        | true => exact absurd (hJ.ord (19, 17) (by simp) hc) (by rw [hun]; decide)
      have hb9 : wz.heap.size ≤ w2.heap.size := by
        cases hc : listed.getD 12 false with
        | false => obtain ⟨rv9, cs9⟩ := hJ.st.2.pre hc; exact cs9.x.size
        | true => obtain ⟨_, _, _, _, _, _, _, _, _, _, _, cs9, _⟩ := hJ.st.2.post hc; exact cs9.x.size
      clear hsz hdep hout hlat
      go_simp
      exact hK _ _ (hJ.nx hls hT rfl (by exact trivial) ⟨NV.next hJ.st.1 (by decide) (nl_no (by decide)), NC.alloc hJ.st.2 n19 hb9⟩ hord)
    · have dd47 := hdep ⟨14, .data⟩ (by simp) rfl
      have q47 := dd47.2 _ rfl _ rfl
      have hl14 := (hdep ⟨14, .data⟩ (by simp) rfl).1
      have hord : ∀ x ∈ ([(12, 6), (12, 11), (6, 5), (11, 10), (13, 12), (14, 13), (15, 13), (16, 13), (18, 14), (20, 16), (19, 15), (19, 17)] : List (Nat × Nat)), x.1 = 18 → listed.getD x.2 false = true := (by intro x hx he; simp only [List.mem_cons, List.not_mem_nil, or_false] at hx; rcases hx with rfl | rfl | rfl | rfl | rfl | rfl | rfl | rfl | rfl | rfl | rfl | rfl; all_goals first | (exact absurd he (by decide)) | assumption)
      have l9 := (hdep ⟨14, .data⟩ (by simp) rfl).1
      have e9 := hJ.st.1 (14, tupA 0) (by simp [NL]) l9
      refine wp_asg9 _ rfl (hK _ _ ?_)
      rw [show a.eval (.tmp 47) = f 14 from q47]
      exact hJ.nx hls hT rfl (by exact trivial) ⟨NV.next hJ.st.1 (by decide) (nl_at (F := tupA 0) rfl e9), NC.ex hJ.st.2 (by decide) (by decide) (by decide) (by decide) (Ex.refl _)⟩ hord
    · have dd10 := hdep ⟨17, .data⟩ (by simp) rfl
      have q10 := dd10.2 _ rfl _ rfl
      have dd48 := hdep ⟨15, .data⟩ (by simp) rfl
      have q48 := dd48.2 _ rfl _ rfl
      have hl15 := (hdep ⟨15, .data⟩ (by simp) rfl).1
      have hl17 := (hdep ⟨17, .data⟩ (by simp) rfl).1
      have hord : ∀ x ∈ ([(12, 6), (12, 11), (6, 5), (11, 10), (13, 12), (14, 13), (15, 13), (16, 13), (18, 14), (20, 16), (19, 15), (19, 17)] : List (Nat × Nat)), x.1 = 19 → listed.getD x.2 false = true := (by intro x hx he; simp only [List.mem_cons, List.not_mem_nil, or_false] at hx; rcases hx with rfl | rfl | rfl | rfl | rfl | rfl | rfl | rfl | rfl | rfl | rfl | rfl; all_goals first | (exact absurd he (by decide)) | assumption)
      have l15 := (hdep ⟨15, .data⟩ (by simp) rfl).1
      have l17 := (hdep ⟨17, .data⟩ (by simp) rfl).1
      have l12 := hJ.ord (13, 12) (by simp) (hJ.ord (15, 13) (by simp) l15)
      have e15 := hJ.st.1 (15, tupA 1) (by simp [NL]) l15
      obtain ⟨r, q, R, rv9, he, hR, h1, h2, h3, h4, h5, hs, _⟩ := hJ.st.2.post l12
      obtain ⟨i9, hi9, hlo, hB⟩ := hJ.st.2.blk l17
      have hB := hB hun
      rw [e15, he] at q48
      rw [hi9] at q10
      refine st_q (.tmp 10) (.tmp 48) i9 q rfl q10 q48 h4 hB (by rw [List.size_toArray, Qt.len zeroQt_ok]) (fun w9 hd ho => ?_)
      exact hK _ _ (hJ.nx hls hT rfl (by exact trivial) ⟨NV.next hJ.st.1 (by decide) (nl_no (by decide)), NC.store hJ.st.2 hun l12 l17 (by rw [hls]; decide) he hR h1 h2 h3 h4 h5 hs hi9 hlo hB hd ho⟩ hord)
    have dd49 := hdep ⟨16, .data⟩ (by simp) rfl
    have q49 := dd49.2 _ rfl _ rfl
    have hl16 := (hdep ⟨16, .data⟩ (by simp) rfl).1
    have hord : ∀ x ∈ ([(12, 6), (12, 11), (6, 5), (11, 10), (13, 12), (14, 13), (15, 13), (16, 13), (18, 14), (20, 16), (19, 15), (19, 17)] : List (Nat × Nat)), x.1 = 20 → listed.getD x.2 false = true := (by intro x hx he; simp only [List.mem_cons, List.not_mem_nil, or_false] at hx; rcases hx with rfl | rfl | rfl | rfl | rfl | rfl | rfl | rfl | rfl | rfl | rfl | rfl; all_goals first | (exact absurd he (by decide)) | assumption)
    have l9 := (hdep ⟨16, .data⟩ (by simp) rfl).1
    have e9 := hJ.st.1 (16, tupA 2) (by simp [NL]) l9
    refine wp_asg9 _ rfl (hK _ _ ?_)
    rw [show a.eval (.tmp 49) = f 16 from q49]
    exact hJ.nx hls hT rfl (by exact trivial) ⟨NV.next hJ.st.1 (by decide) (nl_at (F := tupA 2) rfl e9), NC.ex hJ.st.2 (by decide) (by decide) (by decide) (by decide) (Ex.refl _)⟩ hord
  intro listed f w2 hall hJ
  have hst := hJ.st
  simp only [putAll, Act.put, List.setIfInBounds_toArray, List.set_cons_zero, List.set_cons_succ, Nat.zero_add, Nat.reduceAdd]
  obtain ⟨r, q, R, rv2, he, hR, h1, h2, h3, h4, h5, hs, hq⟩ := hst.2.post (hall 12 (by simp))
  obtain ⟨i9, hi9, hqb⟩ := hq (hall 19 (by simp))
  have e18 := hst.1 (18, tupA 0) (by simp [NL]) (hall 18 (by simp))
  have e20 := hst.1 (20, tupA 2) (by simp [NL]) (hall 20 (by simp))
  rw [he] at e18 e20
  have hi9 : f 17 = .pointer (some ⟨i9, 0, none⟩) := hi9
  rw [hi9, show f 18 = r.V from e18, show f 20 = .int .i64 R.2.2 from e20]
  replace S := Hi hs
  have Y := Hi hqb
  have QI2 : Hid (QI w2 q) := Hi ⟨h4, h5.1⟩
  have RIN := Hi h3.1
  clear hst hS0 he hi9 hqb hq e18 e20 h3 h4 h5 hs
  clear hJ hall hT
  generalize f 0 = y0
  generalize f 1 = y1
  generalize f 2 = y2
  generalize f 3 = y3
  generalize f 4 = y4
  generalize f 5 = y5
  generalize f 6 = y6
  generalize f 7 = y7
  generalize f 8 = y8
  generalize f 9 = y9
  generalize f 10 = y10
  generalize f 11 = y11
  generalize f 12 = y12
  generalize f 13 = y13
  generalize f 14 = y14
  generalize f 15 = y15
  generalize f 16 = y16
  obtain ⟨E, hE⟩ : ∃ E, E = R.2.2 := ⟨_, rfl⟩
  have HE := Hi hE
  rw [← hE]
  have H1 := Hi h1
  have H2 := Hi h2
  have HR := Hi hR
  have hlen : (List.replicate m false).length = m := List.length_replicate
  have HLEN := Hi hlen
  clear hE h1 h2 hR hlen
  skip
  by_cases he : E = 0
  · have FACT : Hid (q.ct.right = true ∧ q.ct.num = (m : Int) ∧ ∃ b t, r.l = Sm.closeL k ((m : Int) * 4 + 0) b t) := Hi (by
      obtain ⟨mm, yy, m0, m7, hR⟩ := HR.out
      have h0 : R.2.2 = 0 := by rw [← HE.out]; exact he
      rw [HLEN.out] at hR
      unfold makeF at hR
      rw [if_neg (by omega)] at hR
      by_cases hz : (reqF 0 m k yy).2 = 0
      · rw [if_pos hz] at hR
        obtain ⟨a1, a2, _⟩ := reqF_right hz
        rw [H2.out, H1.out, hR]
        exact ⟨a1, a2, _, _, rfl⟩
      · rw [if_neg hz] at hR
        rw [hR] at h0
        exact absurd h0 hz)
    have GM2 : Hid (gotM (List.replicate m false) R = List.replicate (m + 1) false) := Hi (by unfold gotM; rw [if_pos (by rw [← HE.out]; exact he), List.replicate_succ'])
    rw [GM2.out] at S
    subst he
    have d8 := Y.out.cells.2.2.2.2
    rw [show q.num = (m : Int) from FACT.out.2.1] at d8
    have q3 : (0 : Int) ≤ (m : Int) := by omega
    have q4 : (m : Int) < 41 := by omega
    have RL8 : Hid (8 ≤ r.l.length) := Hi (by obtain ⟨b, t, e⟩ := FACT.out.2.2; rw [e, Sm.closeL_len]; omega)
    go_wp2_with ((with_reducible refine so7 [1000 + 4] ?_ ?_); (focus rfl))
    refine (rseed9_any r RL8.out r.V rfl w2 RIN.out).mono ?_
    rintro e w3 ⟨rfl, rfl⟩
    rw [show (Sm.beV (r.l.take 8) : Int) = (m : Int) * 4 from by
      obtain ⟨b, t, e⟩ := FACT.out.2.2
      rw [e, seed_close _ (by omega) (by omega)]; omega]
    go_wp2_with ((with_reducible refine so7 [1000 + 4] ?_ ?_); (focus rfl))
    refine at9 (by go_simp) fun K0 hK => ld_q _ i9 q rfl rfl Y.out (hK _ _ ?_)
    clear hK
    go_wp2_with ((with_reducible refine so7 [1000 + 4] ?_ ?_); (focus rfl))
    refine (rqright_any q w2 QI2.out).mono ?_
    rintro e w3 ⟨rfl, x3⟩
    rw [FACT.out.1]
    replace S := Hi (S.out.ext x3)
    clear x3
    go_wp2_with ((with_reducible refine so7 [1000 + 4] ?_ ?_); (focus rfl))
    refine (asked_any wz.heap.size C 0 k rv2 _ w3 S.out.c).mono ?_
    rintro e w4 ⟨rfl, rfl⟩
    rw [List.length_replicate]
    go_wp2_with ((with_reducible refine so7 [1000 + 4] ?_ ?_); (focus rfl))
    refine (waits_any wz.heap.size C 0 k rv2 _ w3 S.out.c).mono ?_
    rintro e w4 ⟨rfl, rfl⟩
    rw [waits_none]
    go_wp2_with fail
    go_roundw
    case rel => exact ⟨j + 1, m + 1, rv2, by omega, by omega, by omega, by first | rfl | (congr 1; done) | exact congrArg (Value.int .u64) (by first | omega | (rw [IntKind.wrap_u64]; omega) | (simp [IntKind.wrap]; omega)), by go_num, S⟩
    case measure => simp [intOf]; omega
  have FACT : Hid (q.ct = zeroQt.ct ∧ r.l = []) := Hi (by
    obtain ⟨mm, yy, m0, m7, hR⟩ := HR.out
    have h0 : ¬ R.2.2 = 0 := by rw [← HE.out]; exact he
    rw [HLEN.out] at hR
    unfold makeF at hR
    rw [if_neg (by omega)] at hR
    by_cases hz : (reqF 0 m k yy).2 = 0
    · rw [if_pos hz] at hR
      rw [hR] at h0
      exact absurd rfl h0
    · rw [if_neg hz] at hR
      rw [H2.out, H1.out, hR]
      exact ⟨reqF_z hz, rfl⟩)
  have GM2 : Hid (gotM (List.replicate m false) R = List.replicate m false) := Hi (by unfold gotM; rw [if_neg (by rw [← HE.out]; exact he)])
  rw [GM2.out] at S
  have hb : (E == 0) = false := by simpa using he
  have hrv : r.V = .slice r.ad 0 r.cap := by unfold Pt.V; rw [FACT.out.2]; rfl
  rw [hrv]
  clear hrv he
  go_wp2_with ((with_reducible refine so7 [1000 + 4] ?_ ?_); (focus rfl))
  refine at9 (by go_simp) fun K0 hK => ld_q _ i9 q rfl rfl Y.out (hK _ _ ?_)
  clear hK
  go_wp2_with ((with_reducible refine so7 [1000 + 4] ?_ ?_); (focus rfl))
  refine at9 (by go_simp) fun K0 hK => wp_build _ _ rfl _ built_zreq (hK _ _ ?_)
  clear hK
  go_wp2_with ((with_reducible refine so7 [1000 + 4] ?_ ?_); (focus rfl))
  refine (reqs_any q zeroQt FACT.out.1 w2 QI2.out ⟨zeroQt_ok, nilB_in _ _⟩ (by have h := congrArg Qc.sec FACT.out.1; have h2 : q.sec.l = [] := h; rw [h2]; decide)).mono ?_
  rintro e w3 ⟨rfl, x3⟩
  replace S := Hi (S.out.ext x3)
  clear x3
  go_wp2_with ((with_reducible refine so7 [1000 + 4] ?_ ?_); (focus rfl))
  refine (asked_any wz.heap.size C 0 k rv2 _ w3 S.out.c).mono ?_
  rintro e w4 ⟨rfl, rfl⟩
  rw [List.length_replicate]
  go_wp2_with fail
  go_roundw
  case rel => exact ⟨j + 1, m, rv2, by omega, by omega, by omega, rfl, by go_num, S⟩
  case measure => simp [intOf]; omega
end Go.Proofs.Ytopamplmpfndlaa.Cl
namespace Go.Proofs.Ytopamplmpfndlaa.Cl
open Go.RowKit
theorem keys22_law (v0 v1 : Value) (n : Int) (w : World) (h0 : ∃ l : List UInt8, l.length = 16 ∧ v0 = digV l) (h1 : ∃ z : Ak, v1 = z.V ∧ AI w z) (h2 : (Lit.int .i64 n).wf = true) :
    Calls Try.prog 6 #[v0, v1, .int .i64 n] w fun e w' => e = .returned (.bool true) ∧ Below w.heap.size w w' := by
  obtain ⟨kl, hk, rfl⟩ := h0
  obtain ⟨x, rfl, hx⟩ := h1
  exact keys22_any kl hk x n w hx (wf_i64 h2)
theorem nums22_law (v0 v1 : Value) (w : World) (h0 : ∃ l : List UInt8, l.length = 16 ∧ v0 = digV l) (h1 : AkpRow w v1) :
    Calls Try.prog 7 #[v0, v1] w fun e w' => e = .returned (.bool true) ∧ Below w.heap.size w w' := by
  obtain ⟨kl, hk, rfl⟩ := h0
  obtain ⟨ad, cap, l, rfl, hin, hl⟩ := h1
  exact nums22_any kl hk ad cap l hl w hin
end Go.Proofs.Ytopamplmpfndlaa.Cl
