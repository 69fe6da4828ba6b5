/- the statements' votes -/
import Derived.Test.YtgoiidpcdifojaaEf
namespace Go.Proofs.Ytgoiidpcdifojaa
open Go.RowKit
open Sm (digV DB by8 sumL numL zero16 by8_int Cls cls_load_mid wp_region_cls byteCells_len)
def bitI (b : Int) (k : Nat) : Int := bits .and .i64 (b / 2 ^ k) 1
def flip5 (M : List UInt8) : List UInt8 := M.set 5 (by8 (bits .xor .u8 (M.getD 5 0).toNat 1))
theorem flip5_len (M : List UInt8) : (flip5 M).length = M.length := by unfold flip5; simp
def voteL (C : List UInt8) (v : Int) (l : List Int) (who bad : Int) (i : Nat) : List (Int × List UInt8) :=
  if bitI who i = 1 then [((i : Int), if bitI bad i = 1 then flip5 (markL (keyL C i) v l) else markL (keyL C i) v l)] else []
def votesL (C : List UInt8) (v : Int) (l : List Int) (who bad : Int) (k : Nat) : List (Int × List UInt8) := (List.range k).flatMap (voteL C v l who bad)
theorem votesL_succ (C : List UInt8) (v : Int) (l : List Int) (who bad : Int) (k : Nat) : votesL C v l who bad (k + 1) = votesL C v l who bad k ++ voteL C v l who bad k := by
  unfold votesL; rw [List.range_succ]; simp
theorem votesL_len (C : List UInt8) (v : Int) (l : List Int) (who bad : Int) (k : Nat) : (votesL C v l who bad k).length ≤ k := by
  induction k with
  | zero => exact Nat.le_refl _
  | succ k ih =>
    rw [votesL_succ, List.length_append]
    have : (voteL C v l who bad k).length ≤ 1 := by unfold voteL; split <;> simp
    omega
theorem xor_u8 (b : UInt8) : bits .xor .u8 (b.toNat : Int) 1 % 256 = bits .xor .u8 (b.toNat : Int) 1 := by
  have h : ((List.range 256).all fun n => decide (bits .xor .u8 ((n : Nat) : Int) 1 % 256 = bits .xor .u8 ((n : Nat) : Int) 1)) = true := by decide +kernel
  rw [List.all_eq_true] at h
  simpa using h b.toNat (by simp; exact b.toNat_lt)
theorem flip5_cells (M : List UInt8) : (Lib.byteCells (flip5 M)).toArray = (Lib.byteCells M).toArray.setIfInBounds 5 (.int .u8 (bits .xor .u8 ((M.getD 5 0).toNat : Int) 1)) := by
  unfold flip5 Lib.byteCells
  rw [List.map_set, by8_int, xor_u8]
  simp
theorem vown_cell {w w' : World} {B g i : Nat} {x : Value} {v : Value} {l : List (Int × List UInt8)} (e : w.setCell ⟨g, i, none⟩ x = w') (h : vown w B v l) (hne : ∀ gg, v.ownBlock = some gg → gg ≠ g) : vown w' B v l := by
  subst e
  obtain ⟨h0, h1, h2 | ⟨gg, cap, cur, rfl, h4, h5, r⟩⟩ := h
  · exact ⟨h0, h1, .inl h2⟩
  · exact ⟨h0, h1, .inr ⟨gg, cap, cur, rfl, h4, (Below.heap_setCell _ _ _ _ (hne gg rfl)).trans h5, r⟩⟩
def VpPost (L : List (Int × List UInt8)) (w : World) (e : Ending) (w' : World) : Prop := ∃ q : Vp, e = .returned q.V ∧ q.l = L ∧ q.In w' w'.heap.size ∧ Ex w w'
set_option maxHeartbeats 4000000 in
set_option maxRecDepth 100000 in
theorem votes_any (C : List UInt8) (hC : C.length = 16) (v : Int) (hv0 : 0 ≤ v) (hv1 : v < 18446744073709551616) (p : Pt) (h8 : p.l.length ≤ 8) (who bad : Int) (w : World) (hp : p.In w w.heap.size) :
    Calls Try.prog 39 #[digV C, LV v p, .int .i64 who, .int .i64 bad] w (VpPost (votesL C v p.l who bad 8) w) := by
  obtain ⟨ml, hml⟩ : ∃ ml : Value, ml = p.V := ⟨_, rfl⟩
  have HML := Lib.hid hml
  have KY := Lib.hid (fun (m : Int) (W : World) => (show Calls Try.prog 41 #[digV C, .int .i64 m] W fun e w' => e = .returned (digV (keyL C m)) ∧ Below W.heap.size W w' from Sm.rkey_any C hC m W))
  have MK := Lib.hid (fun (m : Int) (W : World) (x : Ex w W) => rmark_any (keyL C m) (keyL_len C m) v hv0 hv1 p h8 W (hp.ext x))
  obtain ⟨cs, hcs⟩ : ∃ cs, cs = (Lib.byteCells C).toArray := ⟨_, rfl⟩
  have d0 : Hid (DB ((w.alloc (.cells cs 59)).alloc (.cells #[.int .u64 v, ml] 45)) w.heap.size C) := Lib.hid ⟨hC, by rw [hcs]; exact (Sm.Bk.new rfl _ _).more _⟩
  have l0 : Hid (Bk ((w.alloc (.cells cs 59)).alloc (.cells #[.int .u64 v, ml] 45)) (w.heap.size + 1) 45 #[.int .u64 v, ml]) := Lib.hid (Bk.new (by simp) _ _)
  have BW := Lib.hid (show Ex w ((w.alloc (.cells cs 59)).alloc (.cells #[.int .u64 v, ml] 45)) from ((Below.refl _ _).alloc (Nat.le_refl _) _).alloc (by simp) _)
  rw [show (Calls Try.prog 39 #[digV C, LV v p, .int .i64 who, .int .i64 bad] w) = (Calls Try.prog 39 #[.agg cs, .agg #[.int .u64 v, ml], .int .i64 who, .int .i64 bad] w) by rw [hcs, hml]; rfl]
  clear hcs hml h8 hp hv0 hv1 hC
  go_enter Try.func39, Try.ntmps39
  go_wp2_with (first | (with_reducible refine stop_build88 ?_) | (with_reducible refine stop_bs61 ?_) | (with_reducible refine Sm.stop_load59 ?_) | (with_reducible refine Sm.stop_store59 ?_) | (with_reducible refine stop_load45 ?_) | (with_reducible refine stop_store45 ?_))
  have bw := BW.out
  generalize hw1 : (w.alloc (.cells cs 59)).alloc (.cells #[.int .u64 v, ml] 45) = w1 at *
  obtain ⟨B, hB⟩ : ∃ B, B = w.heap.size := ⟨_, rfl⟩
  rw [← hB] at d0 l0 ⊢
  have HB := Lib.hid hB
  clear hw1 hB BW
  have bw := Lib.hid bw
  have ow := Lib.hid (vown_nil w1 (B + 2))
  have sz := Lib.hid (show B + 2 ≤ w1.heap.size from l0.out.lt)
  go_loopw [9, 10] (fun t i wr => ∃ (k : Nat), k ≤ 8 ∧ i = .int .i64 k ∧ Hid (vown wr (B + 2) t (votesL C v p.l who bad k)) ∧ Hid (DB wr B C) ∧ Hid (Bk wr (B + 1) 45 #[.int .u64 v, ml]) ∧ Hid (B + 2 ≤ wr.heap.size) ∧ Hid (Ex w wr)) (fun _ i _ => 8 - (intOf i).toNat)
  case atStart => exact ⟨0, by omega, rfl, ow, d0, l0, sz, bw⟩
  case round =>
    clear ow d0 l0 sz bw
    obtain ⟨k, hk, rfl, ow, d0, l0, sz, bw⟩ := hrel
    by_cases hlt : k < 8
    · have q0 : (0 : Int) ≤ (k : Int) := by omega
      have q1 : (k : Int) < 8 := by omega
      have VS := Lib.hid (votesL_succ C v p.l who bad k)
      have sz0 := Lib.hid sz.out
      have ow0 := Lib.hid ow.out
      by_cases b1 : bits .and .i64 (who / 2 ^ k) 1 = 1
      · have VB := Lib.hid (show voteL C v p.l who bad k = [((k : Int), if bitI bad k = 1 then flip5 (markL (keyL C k) v p.l) else markL (keyL C k) v p.l)] from if_pos b1)
        go_wp2_with (first | (with_reducible refine stop_build88 ?_) | (with_reducible refine stop_bs61 ?_) | (with_reducible refine Sm.stop_load59 ?_) | (with_reducible refine Sm.stop_store59 ?_) | (with_reducible refine stop_load45 ?_) | (with_reducible refine stop_store45 ?_))
        obtain ⟨T, hT⟩ : ∃ T : List (Option Value), T = [some (digV C), some (.int .i64 k), some (digV (keyL C k)), some (.agg #[.int .u64 v, ml]), some (digV (markL (keyL C k) v p.l)), none, none] := ⟨_, rfl⟩
        refine wp_region_gen (JL wr T 5 6 59 zero16 (Lib.byteCells (markL (keyL C k) v p.l)).toArray) (by kernel_rfl) (by kernel_rfl) (by kernel_rfl) (fitB_spec (by kernel_rfl)) (fun listed f h => JL.start _ listed f h) ?_ ?_
        · intro i o ho
          have hi : i < 7 := (Array.getElem?_eq_some_iff.1 ho).1
          have hi' : i = 0 ∨ i = 1 ∨ i = 2 ∨ i = 3 ∨ i = 4 ∨ i = 5 ∨ i = 6 := by omega
          clear hi
          rcases hi' with rfl | rfl | rfl | rfl | rfl | rfl | rfl
          all_goals (simp only [List.getElem?_toArray, List.getElem?_cons_zero, List.getElem?_cons_succ, Option.some.injEq] at ho; subst ho; intro listed f a w2 hJ hsz hls hun hdep hout hlat)
          · rw [if_pos (by rfl)]
            intro K hK
            have q4 := hout 4 (outB_spec (by kernel_rfl))
            exact Sm.wp_ld _ B C rfl q4 (d0.out.ext hJ.ext) (hK _ _ (hJ.plain (by decide) (by decide) (Ex.refl _) (fun x hx => by rw [hT] at hx; simpa using hx)))
          · rw [if_pos (by rfl)]
            intro K hK
            have q10 := hout 10 (outB_spec (by kernel_rfl))
            refine wp_mv _ rfl (hK _ _ ?_)
            rw [show a.eval (.tmp 10) = .int .i64 k from q10]
            exact hJ.plain (by decide) (by decide) (Ex.refl _) (fun x hx => by rw [hT] at hx; simpa using hx)
          · rw [if_pos (by rfl)]
            intro K hK
            have q22 := (hdep ⟨0, .data⟩ (by simp) rfl).2 _ rfl _ rfl
            rw [show f 0 = _ from hJ.vals 0 (hdep ⟨0, .data⟩ (by simp) rfl).1 (digV C) (by rw [hT]; rfl)] at q22
            have q23 := (hdep ⟨1, .data⟩ (by simp) rfl).2 _ rfl _ rfl
            rw [show f 1 = _ from hJ.vals 1 (hdep ⟨1, .data⟩ (by simp) rfl).1 (.int .i64 k) (by rw [hT]; rfl)] at q23
            rw [Array.getD_eq_getD_getElem?] at q22
            rw [Array.getD_eq_getD_getElem?] at q23
            clear hsz hdep hout hlat
            go_simp
            refine (KY.out k w2).mono ?_
            rintro e w3 ⟨rfl, xq⟩
            exact hK _ _ (hJ.plain (by decide) (by decide) xq (fun x hx => by rw [hT] at hx; simpa using hx))
          · rw [if_pos (by rfl)]
            intro K hK
            have q5 := hout 5 (outB_spec (by kernel_rfl))
            refine wp_ld45g _ (B + 1) _ _ rfl q5 (l0.out.ext hJ.ext) (hK _ _ (hJ.plain (by decide) (by decide) (Ex.refl _) (fun x hx => by rw [hT] at hx; simpa using hx)))
          · rw [if_pos (by rfl)]
            intro K hK
            have q24 := (hdep ⟨2, .data⟩ (by simp) rfl).2 _ rfl _ rfl
            rw [show f 2 = _ from hJ.vals 2 (hdep ⟨2, .data⟩ (by simp) rfl).1 (digV (keyL C k)) (by rw [hT]; rfl)] at q24
            have q25 := (hdep ⟨3, .data⟩ (by simp) rfl).2 _ rfl _ rfl
            rw [show f 3 = _ from hJ.vals 3 (hdep ⟨3, .data⟩ (by simp) rfl).1 (.agg #[.int .u64 v, ml]) (by rw [hT]; rfl)] at q25
            rw [Array.getD_eq_getD_getElem?] at q24
            rw [Array.getD_eq_getD_getElem?] at q25
            have cm := Lib.hid (MK.out k w2 (Ex.trans bw.out hJ.ext))
            unfold LV at cm
            clear hsz hdep hout hlat
            go_simp
            rw [show p.V = ml from HML.out.symm] at cm
            refine cm.out.mono ?_
            rintro e w3 ⟨rfl, xq⟩
            exact hK _ _ (hJ.plain (by decide) (by decide) xq (fun x hx => by rw [hT] at hx; simpa using hx))
          · rw [if_pos (by rfl)]
            intro K hK
            clear hsz hdep hout hlat
            go_simp
            exact hK _ _ (hJ.alloc (by decide) hun (by rw [hT]; rfl))
          · rw [if_pos (by rfl)]
            intro K hK
            have q11 := (hdep ⟨5, .data⟩ (by simp) rfl).2 _ rfl _ rfl
            have q26 := (hdep ⟨4, .data⟩ (by simp) rfl).2 _ rfl _ rfl
            rw [show f 4 = _ from hJ.vals 4 (hdep ⟨4, .data⟩ (by simp) rfl).1 (digV (markL (keyL C k) v p.l)) (by rw [hT]; rfl)] at q26
            obtain ⟨g, hg, hgb, hB⟩ := hJ.loc (hdep ⟨5, .data⟩ (by simp) rfl).1
            rw [hg] at q11
            have l9 : listed.getD 6 false = false := hun
            rw [l9, if_neg (by decide)] at hB
            refine Sm.wp_st _ _ g _ rfl q11 q26 (markL_len _ _ _) hB rfl (fun w' hd ho => hK _ _ ?_)
            exact hJ.store (by decide) (hdep ⟨5, .data⟩ (by simp) rfl).1 (by rw [hls]; decide) (by rw [hT]; rfl) hg hgb hd.2 ⟨ho.below, ho.other, ho.size⟩
        · intro listed f w2 hall hJ
          have f0 : f 0 = digV C := hJ.vals 0 (hall 0 (by simp)) _ (by rw [hT]; rfl)
          have f1 : f 1 = .int .i64 k := hJ.vals 1 (hall 1 (by simp)) _ (by rw [hT]; rfl)
          have f2 : f 2 = digV (keyL C k) := hJ.vals 2 (hall 2 (by simp)) _ (by rw [hT]; rfl)
          have f3 : f 3 = .agg #[.int .u64 v, ml] := hJ.vals 3 (hall 3 (by simp)) _ (by rw [hT]; rfl)
          have f4 : f 4 = digV (markL (keyL C k) v p.l) := hJ.vals 4 (hall 4 (by simp)) _ (by rw [hT]; rfl)
          obtain ⟨g, f5, gb, bg⟩ := hJ.loc (hall 5 (by simp))
          rw [if_pos (hall 6 (by simp))] at bg
          have xw := hJ.ext
          simp only [putAll, Act.put, List.setIfInBounds_toArray, List.set_cons_zero, List.set_cons_succ, Nat.zero_add, Nat.reduceAdd]
          rw [f0, f1, f2, f3, f4, f5]
          clear f0 f1 f2 f3 f4 f5 hJ hall hT
          have ow := Lib.hid (vown_under ow.out xw)
          have d0 := Lib.hid (d0.out.ext xw)
          have l0 := Lib.hid (l0.out.ext xw)
          have sz := Lib.hid (Nat.le_trans sz.out xw.size)
          have bw := Lib.hid (Ex.trans bw.out xw)
          obtain ⟨M, hM⟩ : ∃ M, M = markL (keyL C k) v p.l := ⟨_, rfl⟩
          rw [← hM] at VB
          have bg : Hid (DB w2 g M) := Lib.hid (by rw [hM]; exact ⟨markL_len _ _ _, bg⟩)
          have xg : Hid (∀ gg, u9.ownBlock = some gg → gg ≠ g) := Lib.hid (fun gg h e => by
            have := (World.ownsRow.lt ow0.out.2 gg h).2
            omega)
          have gb := Lib.hid (Nat.le_trans sz0.out gb)
          clear xw hM
          by_cases b2 : bits .and .i64 (bad / 2 ^ k) 1 = 1
          · rw [if_pos (show bitI bad k = 1 from b2)] at VB
            have c5 : w2.cell? ⟨g, 5, none⟩ = some (.int .u8 (M.getD 5 0).toNat) := by
              rw [bg.out.2.cell]
              have h := bg.out.1
              simp [Lib.byteCells, List.getD, h]
            have r5 : w2.frozen? ⟨g, 5, none⟩ = false := bg.out.2.fr 5
            obtain ⟨x5, hx5⟩ : ∃ x5 : Int, x5 = ((M.getD 5 0).toNat : Int) := ⟨_, rfl⟩
            have x50 : 0 ≤ x5 := by rw [hx5]; omega
            have x51 : x5 < 256 := by rw [hx5]; have := (M.getD 5 0).toNat_lt; omega
            rw [← hx5] at c5
            have HX5 := Lib.hid hx5
            clear hx5
            go_wp2_with (first | (with_reducible refine stop_build88 ?_) | (with_reducible refine stop_bs61 ?_) | (with_reducible refine Sm.stop_load59 ?_) | (with_reducible refine Sm.stop_store59 ?_) | (with_reducible refine stop_load45 ?_) | (with_reducible refine stop_store45 ?_))
            generalize hw5 : w2.setCell ⟨g, 5, none⟩ (.int .u8 (bits .xor .u8 x5 1)) = w5
            have bg5 : Hid (DB w5 g (flip5 M)) := Lib.hid (by
              rw [← hw5, HX5.out]
              refine ⟨by rw [flip5_len]; exact bg.out.1, ?_⟩
              have h := bg.out.2.put 5 (.int .u8 (bits .xor .u8 ((M.getD 5 0).toNat : Int) 1))
              rw [flip5_cells M]; exact h)
            have ho : Below (B + 2) w2 w5 := by rw [← hw5]; exact (Below.refl _ _).setCell (p := ⟨g, 5, none⟩) gb.out _
            have ow := Lib.hid (vown_cell hw5 ow.out xg.out)
            have d0 := Lib.hid (DB.under d0.out ho (by omega))
            have l0 := Lib.hid (l0.out.under ho (by omega))
            have sz := Lib.hid (Nat.le_trans sz.out ho.size)
            have bw := Lib.hid (Below.trans (show Below w.heap.size w _ from bw.out) (ho.mono (by rw [← HB.out]; omega)))
            clear hw5 ho gb HX5 x50 x51 c5 r5 xg ow0
            have bg := bg5
            clear bg5
            go_wp2_with (first | (with_reducible refine stop_build88 ?_) | (with_reducible refine stop_bs61 ?_) | (with_reducible refine Sm.stop_load59 ?_) | (with_reducible refine Sm.stop_store59 ?_) | (with_reducible refine stop_load45 ?_) | (with_reducible refine stop_store45 ?_))
            (with_reducible refine ⟨?_⟩); (with_reducible refine at_any ?_ ?_); (focus go_simp); refine fun K0 hK => Sm.wp_ld _ g (flip5 M) rfl rfl bg.out (hK _ _ ?_)
            clear hK
            go_wp2_with (first | (with_reducible refine stop_build88 ?_) | (with_reducible refine stop_bs61 ?_) | (with_reducible refine Sm.stop_load59 ?_) | (with_reducible refine Sm.stop_store59 ?_) | (with_reducible refine stop_load45 ?_) | (with_reducible refine stop_store45 ?_))
            (with_reducible refine ⟨?_⟩); (with_reducible refine at_any ?_ ?_); (focus go_simp); refine fun K0 hK => wp_build88 _ _ k (flip5 M) bg.out.1 rfl rfl rfl (hK _ _ ?_)
            clear hK
            go_wp2_with (first | (with_reducible refine stop_build88 ?_) | (with_reducible refine stop_bs61 ?_) | (with_reducible refine Sm.stop_load59 ?_) | (with_reducible refine Sm.stop_store59 ?_) | (with_reducible refine stop_load45 ?_) | (with_reducible refine stop_store45 ?_))
            (with_reducible refine ⟨?_⟩); (with_reducible refine at_any ?_ ?_); (focus go_simp); refine fun K0 hK => wp_bs61 _ ((k : Int), flip5 M) bg.out.1 rfl rfl (hK _ _ ?_)
            clear hK
            have xa : Ex w5 (w5.alloc (.cells (voC ((k : Int), flip5 M)).toArray 88)) := (Below.refl _ _).alloc (Nat.le_refl _) _
            have NEW := Lib.hid (Bk.new (w := w5) rfl 88 (voC ((k : Int), flip5 M)).toArray)
            have OW := Lib.hid (vown_under ow.out xa)
            have DA := Lib.hid (DB.ext d0.out xa)
            have LA := Lib.hid (l0.out.ext xa)
            have SZA := Lib.hid (Nat.le_trans sz.out xa.size)
            have XA := Lib.hid (Ex.trans bw.out xa)
            have BG := Lib.hid bg.out.1
            have VL := Lib.hid (votesL_len C v p.l who bad k)
            clear xa ow d0 l0 sz bw bg
            go_wp2_with (at_builtin; refine vappend rfl (.tmp 37) (.tmp 41) rfl (B + 2) _ _ rfl OW.out ((k : Int), flip5 M) BG.out w5.heap.size rfl NEW.out ?_ SZA.out ?_; (focus (exact Nat.le_trans VL.out (by omega))); intro v3 w3 hown3 hx3; have HO3 := Lib.hid hown3; have HX3 := Lib.hid hx3; clear hown3 hx3)
            have D3 := Lib.hid (DB.under DA.out HX3.out (by omega))
            have L3 := Lib.hid (LA.out.under HX3.out (by omega))
            have S3 := Lib.hid (Nat.le_trans SZA.out HX3.out.size)
            have X3 := Lib.hid (Below.trans (show Below w.heap.size w _ from XA.out) (HX3.out.mono (by rw [← HB.out]; omega)))
            have O3 : Hid (vown w3 (B + 2) v3 (votesL C v p.l who bad (k + 1))) := by rw [VS.out, VB.out]; exact HO3
            clear HO3 HX3 NEW OW DA LA SZA XA
            go_roundw
            case rel => exact ⟨k + 1, by omega, by go_num, O3, D3, L3, S3, X3⟩
            case measure => simp [intOf]; omega
          · rw [if_neg (show ¬ bitI bad k = 1 from b2)] at VB
            clear gb xg ow0
            go_wp2_with (first | (with_reducible refine stop_build88 ?_) | (with_reducible refine stop_bs61 ?_) | (with_reducible refine Sm.stop_load59 ?_) | (with_reducible refine Sm.stop_store59 ?_) | (with_reducible refine stop_load45 ?_) | (with_reducible refine stop_store45 ?_))
            (with_reducible refine ⟨?_⟩); (with_reducible refine at_any ?_ ?_); (focus go_simp); refine fun K0 hK => Sm.wp_ld _ g (M) rfl rfl bg.out (hK _ _ ?_)
            clear hK
            go_wp2_with (first | (with_reducible refine stop_build88 ?_) | (with_reducible refine stop_bs61 ?_) | (with_reducible refine Sm.stop_load59 ?_) | (with_reducible refine Sm.stop_store59 ?_) | (with_reducible refine stop_load45 ?_) | (with_reducible refine stop_store45 ?_))
            (with_reducible refine ⟨?_⟩); (with_reducible refine at_any ?_ ?_); (focus go_simp); refine fun K0 hK => wp_build88 _ _ k (M) bg.out.1 rfl rfl rfl (hK _ _ ?_)
            clear hK
            go_wp2_with (first | (with_reducible refine stop_build88 ?_) | (with_reducible refine stop_bs61 ?_) | (with_reducible refine Sm.stop_load59 ?_) | (with_reducible refine Sm.stop_store59 ?_) | (with_reducible refine stop_load45 ?_) | (with_reducible refine stop_store45 ?_))
            (with_reducible refine ⟨?_⟩); (with_reducible refine at_any ?_ ?_); (focus go_simp); refine fun K0 hK => wp_bs61 _ ((k : Int), M) bg.out.1 rfl rfl (hK _ _ ?_)
            clear hK
            have xa : Ex w2 (w2.alloc (.cells (voC ((k : Int), M)).toArray 88)) := (Below.refl _ _).alloc (Nat.le_refl _) _
            have NEW := Lib.hid (Bk.new (w := w2) rfl 88 (voC ((k : Int), M)).toArray)
            have OW := Lib.hid (vown_under ow.out xa)
            have DA := Lib.hid (DB.ext d0.out xa)
            have LA := Lib.hid (l0.out.ext xa)
            have SZA := Lib.hid (Nat.le_trans sz.out xa.size)
            have XA := Lib.hid (Ex.trans bw.out xa)
            have BG := Lib.hid bg.out.1
            have VL := Lib.hid (votesL_len C v p.l who bad k)
            clear xa ow d0 l0 sz bw bg
            go_wp2_with (at_builtin; refine vappend rfl (.tmp 37) (.tmp 41) rfl (B + 2) _ _ rfl OW.out ((k : Int), M) BG.out w2.heap.size rfl NEW.out ?_ SZA.out ?_; (focus (exact Nat.le_trans VL.out (by omega))); intro v3 w3 hown3 hx3; have HO3 := Lib.hid hown3; have HX3 := Lib.hid hx3; clear hown3 hx3)
            have D3 := Lib.hid (DB.under DA.out HX3.out (by omega))
            have L3 := Lib.hid (LA.out.under HX3.out (by omega))
            have S3 := Lib.hid (Nat.le_trans SZA.out HX3.out.size)
            have X3 := Lib.hid (Below.trans (show Below w.heap.size w _ from XA.out) (HX3.out.mono (by rw [← HB.out]; omega)))
            have O3 : Hid (vown w3 (B + 2) v3 (votesL C v p.l who bad (k + 1))) := by rw [VS.out, VB.out]; exact HO3
            clear HO3 HX3 NEW OW DA LA SZA XA
            go_roundw
            case rel => exact ⟨k + 1, by omega, by go_num, O3, D3, L3, S3, X3⟩
            case measure => simp [intOf]; omega
      · have VN := Lib.hid (show voteL C v p.l who bad k = [] from if_neg b1)
        go_wp2_with (first | (with_reducible refine stop_build88 ?_) | (with_reducible refine stop_bs61 ?_) | (with_reducible refine Sm.stop_load59 ?_) | (with_reducible refine Sm.stop_store59 ?_) | (with_reducible refine stop_load45 ?_) | (with_reducible refine stop_store45 ?_))
        go_roundw
        case rel => exact ⟨k + 1, by omega, by go_num, by rw [VS.out, VN.out, List.append_nil]; exact ow, d0, l0, sz, bw⟩
        case measure => simp [intOf]; omega
    · obtain rfl : k = 8 := by omega
      obtain ⟨q, rfl, hql, hqin⟩ := vown_vp ow.out
      go_wp2_with (first | (with_reducible refine stop_build88 ?_) | (with_reducible refine stop_bs61 ?_) | (with_reducible refine Sm.stop_load59 ?_) | (with_reducible refine Sm.stop_store59 ?_) | (with_reducible refine stop_load45 ?_) | (with_reducible refine stop_store45 ?_))
      go_ret
      exact ⟨q, rfl, hql, hqin, bw.out⟩
end Go.Proofs.Ytgoiidpcdifojaa
