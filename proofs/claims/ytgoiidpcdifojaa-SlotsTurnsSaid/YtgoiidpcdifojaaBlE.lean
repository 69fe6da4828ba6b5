/- walks: the document's own Keyed; Two of both -/
import Derived.Test.YtgoiidpcdifojaaBlD
namespace Go.Proofs.Ytgoiidpcdifojaa.Sm
open Go.RowKit
theorem cons_of (n : Nat) (l : List UInt8) (h : l.length = n + 1) : ∃ x m, l = x :: m ∧ m.length = n := by
  cases l with
  | nil => cases h
  | cons x m => exact ⟨x, m, rfl, by simpa using h⟩
theorem len16 (l : List UInt8) (h : l.length = 16) : ∃ x0 x1 x2 x3 x4 x5 x6 x7 x8 x9 x10 x11 x12 x13 x14 x15 : UInt8, l = [x0, x1, x2, x3, x4, x5, x6, x7, x8, x9, x10, x11, x12, x13, x14, x15] := by
  obtain ⟨x0, l0, rfl, h0⟩ := cons_of 15 l h
  obtain ⟨x1, l1, rfl, h1⟩ := cons_of 14 l0 h0
  obtain ⟨x2, l2, rfl, h2⟩ := cons_of 13 l1 h1
  obtain ⟨x3, l3, rfl, h3⟩ := cons_of 12 l2 h2
  obtain ⟨x4, l4, rfl, h4⟩ := cons_of 11 l3 h3
  obtain ⟨x5, l5, rfl, h5⟩ := cons_of 10 l4 h4
  obtain ⟨x6, l6, rfl, h6⟩ := cons_of 9 l5 h5
  obtain ⟨x7, l7, rfl, h7⟩ := cons_of 8 l6 h6
  obtain ⟨x8, l8, rfl, h8⟩ := cons_of 7 l7 h7
  obtain ⟨x9, l9, rfl, h9⟩ := cons_of 6 l8 h8
  obtain ⟨x10, l10, rfl, h10⟩ := cons_of 5 l9 h9
  obtain ⟨x11, l11, rfl, h11⟩ := cons_of 4 l10 h10
  obtain ⟨x12, l12, rfl, h12⟩ := cons_of 3 l11 h11
  obtain ⟨x13, l13, rfl, h13⟩ := cons_of 2 l12 h12
  obtain ⟨x14, l14, rfl, h14⟩ := cons_of 1 l13 h13
  obtain ⟨x15, l15, rfl, h15⟩ := cons_of 0 l14 h14
  obtain rfl : l15 = [] := List.eq_nil_of_length_eq_zero h15
  exact ⟨_, _, _, _, _, _, _, _, _, _, _, _, _, _, _, _, rfl⟩
theorem digV_lit (x0 x1 x2 x3 x4 x5 x6 x7 x8 x9 x10 x11 x12 x13 x14 x15 : UInt8) : digV [x0, x1, x2, x3, x4, x5, x6, x7, x8, x9, x10, x11, x12, x13, x14, x15] = .agg #[.int .u8 x0.toNat, .int .u8 x1.toNat, .int .u8 x2.toNat, .int .u8 x3.toNat, .int .u8 x4.toNat, .int .u8 x5.toNat, .int .u8 x6.toNat, .int .u8 x7.toNat, .int .u8 x8.toNat, .int .u8 x9.toNat, .int .u8 x10.toNat, .int .u8 x11.toNat, .int .u8 x12.toNat, .int .u8 x13.toNat, .int .u8 x14.toNat, .int .u8 x15.toNat] := rfl
theorem sumL_len (l : List UInt8) : (sumL l).length = 16 := rfl
theorem still_load_mid {P : Program} {o : Oper} {a : Act} {w : World} {K : Act → Prop} (ty : TypeId) (x : Operand) (ho : o.op = .load ty x) (b off : Nat) (ha : a.eval x = .pointer (some ⟨b, off, none⟩))
    (cs : List Value) (d : TypeDesc) (hc : w.rangeAt b off cs) (hu : P.underlying ty = some d) (hd : d.isRow = true) (hi : (P.info? ty).map (·.size) = some cs.length) (hk : K (a.put o.dst (.agg cs.toArray))) : o.still P a w K := by
  unfold Oper.still execOp
  simp only [ho]
  simp only [Sem.run_bind, ha]
  rw [run_loadAt_mid w b off ty cs d hc hu hd hi]
  exact ⟨rfl, hk⟩
theorem rk_in {p : Pt} {w wa wb w1 : World} (h : p.In w w.heap.size) {v : Value} (hg : wb.grownBy w1 v.ownBlock) (h1 : Below w.heap.size w wa) (h2 : Below (w.heap.size + 1) wa wb) (hv : v.ownBlock = some (w.heap.size + 1 + 1)) :
    0 < p.l.length → ∃ ad, p.ad = some ad ∧ ∀ j u, (Lib.byteCells p.l)[j]? = some u → w1.cell? (ad.add j) = some u := by
  have b2 : Below w.heap.size w wb := h1.trans (h2.mono (by omega))
  have b3 : Below w.heap.size w w1 := b2.grown hg b2.size (fun k hk => by rw [hv] at hk; injection hk with hk; omega)
  exact (h.keep b3).cells
theorem rk_sz {wb w1 : World} {row : Option Nat} {n : Nat} (hg : ((wb.alloc (.cells (#[] : Array Value) 5))).grownBy w1 row) (hn : n ≤ wb.heap.size + 1) : n ≤ w1.heap.size := by
  have := hg.size; simp at this; omega
set_option maxHeartbeats 4000000 in
set_option maxRecDepth 100000 in
theorem rkeyed_any (kl : List UInt8) (hk : kl.length = 16) (p : Pt) (w : World) (hp : p.In w w.heap.size) (hm : p.l.length ≤ 90000000000000) :
    Calls Try.prog 59 #[digV kl, p.V] w fun e w' => e = .returned (digV (sumL (kl ++ p.l))) ∧ Below w.heap.size w w' := by
  obtain ⟨cs, hcs⟩ : ∃ cs, cs = Lib.byteCells kl := ⟨_, rfl⟩
  have hv : digV kl = .agg cs.toArray := by rw [hcs]; rfl
  have hcl : cs.toArray.size = 16 := by rw [hcs]; simp [Lib.byteCells, hk]
  obtain ⟨ds, hds⟩ : ∃ ds, ds = Lib.byteCells (sumL (kl ++ p.l)) := ⟨_, rfl⟩
  have hval : digV (sumL (kl ++ p.l)) = .agg ds.toArray := by rw [hds]; rfl
  have hdl : ds.length = 16 := by rw [hds]; rfl
  have HO := Lib.hid (show ds.toArray.all (·.oneCell') = true by rw [hds]; exact bytes_one _)
  have HV := Lib.hid hval
  have HDL := Lib.hid hdl
  have hi3 := Lib.hid (show (Try.prog.info? 59).map (·.size) = some ds.toArray.size by rw [sm_dsize]; simp [hdl])
  have hi4 := Lib.hid (show (Try.prog.info? 59).map (·.size) = some ds.length by rw [sm_dsize, hdl])
  obtain ⟨dd, hd⟩ : ∃ d, Try.prog.underlying 59 = some d ∧ d.isRow = true := ⟨_, Try.underlying59, rfl⟩
  have HD := Lib.hid hd
  clear hds hval hdl hd
  have K0 := Lib.hid (show Bk (w.alloc (.cells cs.toArray 59)) w.heap.size 59 (Lib.byteCells kl).toArray by rw [hcs]; exact Bk.new rfl _ _)
  have HP := Lib.hid hp
  have HK := Lib.hid hk
  rw [hv, show p.V = .slice p.ad p.l.length p.cap from rfl]
  clear hv hcs hp hk
  have own0 := Lib.hid (show ∀ X Y, (((w.alloc X).alloc Y).alloc (.cells #[] 5)).ownsRow (w.heap.size + 2) 5 1 (.slice (some ⟨w.heap.size + 1 + 1, 0, none⟩) 0 0) 0 [] from fun X Y => by
    have h := World.ownsRow_lit (base := w.heap.size + 2) (e := 5) (size := 1) ((w.alloc X).alloc Y) #[] 0 (by simp) (by unfold maxLen; omega) rfl
    simpa using h)
  have hb0 := Lib.hid (show ∀ Y Z, Below (w.heap.size + 1) (w.alloc (.cells cs.toArray 59)) (((w.alloc (.cells cs.toArray 59)).alloc Y).alloc Z) from fun Y Z => ((Below.refl _ _).alloc (by simp) _).alloc (by simp) _)
  have hb1 := Lib.hid (show ∀ X, Below w.heap.size w (w.alloc X) from fun X => (Below.refl _ _).alloc (Nat.le_refl _) _)
  have KP := Lib.hid (show (Pt.mk (some ⟨w.heap.size, 0, none⟩) 16 kl).In (w.alloc (.cells cs.toArray 59)) (w.heap.size + 1) by
    have h := bk_pt K0.out
    rw [HK.out] at h
    exact h.more (by simp))
  go_enter Try.func59, Try.ntmps59
  go_wp2_with (first
    | (at_builtin; refine sm_append rfl (.tmp 5) (.tmp 6) rfl (w.heap.size + 2) _ 0 [] rfl ?_ (some ⟨w.heap.size, 0, none⟩) 16 16 kl rfl ?_ HK.out ?_ ?_ ?_ ?_; (focus (exact own0.out _ _)); (focus (intro h; cases h)); (focus (intro h; exact (KP.out.keep (hb0.out _ _)).cells (by rw [HK.out]; omega))); (focus omega); (focus simp); intro v1 w1 hown1 hg1; have HO1 := Lib.hid hown1; have HG1 := Lib.hid hg1; clear hown1 hg1)
    | (at_builtin; refine sm_append rfl (.tmp 7) (.tmp 8) rfl (w.heap.size + 2) v1 (0 + 16) ([] ++ Lib.byteCells kl) rfl HO1.out p.ad p.l.length p.cap p.l rfl HP.out.nil rfl ?_ ?_ ?_ ?_; (focus (exact rk_in HP.out HG1.out (hb1.out _) (hb0.out _ _) (by simp [Value.ownBlock, Act.eval]))); (focus omega); (focus (exact rk_sz HG1.out (by simp))); intro v2 w2 hown2 hg2; have HO2 := Lib.hid hown2; have HG2 := Lib.hid hg2; clear hown2 hg2))
  have own2 : Hid (ownU w2 (w.heap.size + 2) v2 (kl ++ p.l)) := by
    have h := HO2.out
    rw [Nat.zero_add, List.nil_append, ← byteCells_app] at h
    unfold ownU
    rw [List.length_append, HK.out]
    exact Lib.hid h
  have bA := hb1.out (.cells cs.toArray 59)
  have D1 := Lib.hid (Bk.new (w := w.alloc (.cells cs.toArray 59)) (g := w.heap.size + 1) (by simp) 59 zero16)
  have D2 := Lib.hid ((D1.out.more (.cells #[] 5)).only HG1.out (by simp [Value.ownBlock, Act.eval]))
  have D3 := Lib.hid (D2.out.only HG2.out (own_far HO1.out (by omega)))
  have bB : Below w.heap.size w w1 := (bA.trans ((hb0.out (.cells zero16 59) (.cells #[] 5)).mono (by omega))).grown HG1.out (by simp; omega) (fun k hk => by
    have : w.heap.size + 1 + 1 = k := by simpa [Value.ownBlock, Act.eval] using hk
    omega)
  have bw2 : Below w.heap.size w w2 := bB.grown HG2.out bB.size (fun k hk => by have := (HO1.out.lt k hk).1; omega)
  have z2 := bw2.size
  have zz : 0 < w2.heap.size := by have := D3.out.lt; omega
  obtain ⟨q, rfl, hql, hqi, _⟩ := own_pt own2.out
  have G := rsum_pt q w2 hqi (by rw [hql, List.length_append, HK.out]; omega)
  rw [hql, HV.out] at G
  have G := Lib.hid G
  clear HO1 HG1 HO2 HG2 D1 D2 own0 hb0 hb1 own2 hql hqi bA bB
  refine G.out.mono ?_
  rintro e w4 ⟨rfl, b4⟩
  have bw4 := bw2.trans (b4.mono z2)
  have D4 := Lib.hid (D3.out.under b4 D3.out.lt)
  have TH := Lib.hid (show w4.there (w.heap.size + 1) 0 ds.toArray.size by rw [show ds.toArray.size = 16 by simp [HDL.out]]; exact D4.out.there 16 rfl)
  clear D4 D3 G b4
  go_wp2_with ((with_reducible refine sm_at_store ?_ ?_); (focus go_simp); (refine fun K hK => wp_store_mid 59 _ _ rfl (w.heap.size + 1) 0 ds.toArray rfl rfl TH.out hi3.out HO.out (hK _ _ ?_)))
  rw [HV.out]
  exact bodyPost_ret (sm_results_cell rfl _ _ _ (w.heap.size + 1) 0 rfl ds dd (World.rangeAt_setCells_same _ _ _ _ (by simpa using TH.out)) HD.out.1 HD.out.2 hi4.out) rfl ⟨rfl, sm_below_setCells _ _ _ (by omega) bw4⟩
end Go.Proofs.Ytgoiidpcdifojaa.Sm
