/- the law EndorseTells: votes as a row of their own, the walk, what comes in -/
import Derived.Test.YtgoiidpcdifojaaEk
import Derived.Test.YtgoiidpcdifojaaEo
import Derived.Test.YtgoiidpcdifojaaOpA
import Derived.ArgAppend
import Derived.Maps.AppendAt
import Derived.Laws.CopyOwn
import Derived.ProofKit
import Derived.OpenShut
import Derived.ChangeSlices
import Derived.ChangeSame
import Derived.Deep.Slices
import Derived.Deep.Fields
namespace Go.Proofs.Ytgoiidpcdifojaa
open Go.RowKit
open Go.ChangeShapes Go.WideShapes Go.ChangeAt
open Sm (digV DB by8 sumL numL zero16 by8_int)
def VoPost (L : List (Int × List UInt8)) (w : World) (e : Ending) (w' : World) : Prop := ∃ v, e = .returned v ∧ vown w' w.heap.size v L ∧ Ex w w'
theorem vown_less {w : World} {B B' : Nat} {v : Value} {l : List (Int × List UInt8)} (h : vown w B v l) (k : B' ≤ B) : vown w B' v l := by
  obtain ⟨h0, h1, h2 | ⟨g, cap, cur, h3, h4, r⟩⟩ := h
  · exact ⟨h0, h1, .inl h2⟩
  · exact ⟨h0, h1, .inr ⟨g, cap, cur, h3, by omega, r⟩⟩
set_option maxHeartbeats 4000000 in
set_option maxRecDepth 100000 in
theorem votes_own (C : List UInt8) (hC : C.length = 16) (v : Int) (hv0 : 0 ≤ v) (hv1 : v < 18446744073709551616) (p : Pt) (h8 : p.l.length ≤ 8) (who bad : Int) (w : World) (hp : p.In w w.heap.size) :
    Calls Try.prog 39 #[digV C, LV v p, .int .i64 who, .int .i64 bad] w (VoPost (votesL C v p.l who bad 8) w) := by
  obtain ⟨ml, hml⟩ : ∃ ml : Value, ml = p.V := ⟨_, rfl⟩
  have HML := Lib.hid hml
  have KY := Lib.hid (fun (m : Int) (W : World) => (show Calls Try.prog 41 #[digV C, .int .i64 m] W fun e w' => e = .returned (digV (keyL C m)) ∧ Below W.heap.size W w' from Sm.rkey_any C hC m W))
  have MK := Lib.hid (fun (m : Int) (W : World) (x : Ex w W) => rmark_any (keyL C m) (keyL_len C m) v hv0 hv1 p h8 W (hp.ext x))
  obtain ⟨cs, hcs⟩ : ∃ cs, cs = (Lib.byteCells C).toArray := ⟨_, rfl⟩
  have d0 : Hid (DB ((w.alloc (.cells cs 59)).alloc (.cells #[.int .u64 v, ml] 45)) w.heap.size C) := Lib.hid ⟨hC, by rw [hcs]; exact (Sm.Bk.new rfl _ _).more _⟩
  have l0 : Hid (Bk ((w.alloc (.cells cs 59)).alloc (.cells #[.int .u64 v, ml] 45)) (w.heap.size + 1) 45 #[.int .u64 v, ml]) := Lib.hid (Bk.new (by simp) _ _)
  have BW := Lib.hid (show Ex w ((w.alloc (.cells cs 59)).alloc (.cells #[.int .u64 v, ml] 45)) from ((Below.refl _ _).alloc (Nat.le_refl _) _).alloc (by simp) _)
  rw [show (Calls Try.prog 39 #[digV C, LV v p, .int .i64 who, .int .i64 bad] w) = (Calls Try.prog 39 #[.agg cs, .agg #[.int .u64 v, ml], .int .i64 who, .int .i64 bad] w) by rw [hcs, hml]; rfl]
  clear hcs hml h8 hp hv0 hv1 hC
  go_enter Try.func39, Try.ntmps39
  go_wp2_with (first | (with_reducible refine stop_build88 ?_) | (with_reducible refine stop_bs61 ?_) | (with_reducible refine Sm.stop_load59 ?_) | (with_reducible refine Sm.stop_store59 ?_) | (with_reducible refine stop_load45 ?_) | (with_reducible refine stop_store45 ?_))
  have bw := BW.out
  generalize hw1 : (w.alloc (.cells cs 59)).alloc (.cells #[.int .u64 v, ml] 45) = w1 at *
  obtain ⟨B, hB⟩ : ∃ B, B = w.heap.size := ⟨_, rfl⟩
  rw [← hB] at d0 l0 ⊢
  have HB := Lib.hid hB
  clear hw1 hB BW
  have bw := Lib.hid bw
  have ow := Lib.hid (vown_nil w1 (B + 2))
  have sz := Lib.hid (show B + 2 ≤ w1.heap.size from l0.out.lt)
  go_loopw [9, 10] (fun t i wr => ∃ (k : Nat), k ≤ 8 ∧ i = .int .i64 k ∧ Hid (vown wr (B + 2) t (votesL C v p.l who bad k)) ∧ Hid (DB wr B C) ∧ Hid (Bk wr (B + 1) 45 #[.int .u64 v, ml]) ∧ Hid (B + 2 ≤ wr.heap.size) ∧ Hid (Ex w wr)) (fun _ i _ => 8 - (intOf i).toNat)
  case atStart => exact ⟨0, by omega, rfl, ow, d0, l0, sz, bw⟩
  case round =>
    clear ow d0 l0 sz bw
    obtain ⟨k, hk, rfl, ow, d0, l0, sz, bw⟩ := hrel
    by_cases hlt : k < 8
    · have q0 : (0 : Int) ≤ (k : Int) := by omega
      have q1 : (k : Int) < 8 := by omega
      have VS := Lib.hid (votesL_succ C v p.l who bad k)
      have sz0 := Lib.hid sz.out
      have ow0 := Lib.hid ow.out
      by_cases b1 : bits .and .i64 (who / 2 ^ k) 1 = 1
      · have VB := Lib.hid (show voteL C v p.l who bad k = [((k : Int), if bitI bad k = 1 then flip5 (markL (keyL C k) v p.l) else markL (keyL C k) v p.l)] from if_pos b1)
        go_wp2_with (first | (with_reducible refine stop_build88 ?_) | (with_reducible refine stop_bs61 ?_) | (with_reducible refine Sm.stop_load59 ?_) | (with_reducible refine Sm.stop_store59 ?_) | (with_reducible refine stop_load45 ?_) | (with_reducible refine stop_store45 ?_))
        obtain ⟨T, hT⟩ : ∃ T : List (Option Value), T = [some (digV C), some (.int .i64 k), some (digV (keyL C k)), some (.agg #[.int .u64 v, ml]), some (digV (markL (keyL C k) v p.l)), none, none] := ⟨_, rfl⟩
        refine wp_region_gen (JL wr T 5 6 59 zero16 (Lib.byteCells (markL (keyL C k) v p.l)).toArray) (by kernel_rfl) (by kernel_rfl) (by kernel_rfl) (fitB_spec (by kernel_rfl)) (fun listed f h => JL.start _ listed f h) ?_ ?_
        · intro i o ho
          have hi : i < 7 := (Array.getElem?_eq_some_iff.1 ho).1
          have hi' : i = 0 ∨ i = 1 ∨ i = 2 ∨ i = 3 ∨ i = 4 ∨ i = 5 ∨ i = 6 := by omega
          clear hi
          rcases hi' with rfl | rfl | rfl | rfl | rfl | rfl | rfl
          all_goals (simp only [List.getElem?_toArray, List.getElem?_cons_zero, List.getElem?_cons_succ, Option.some.injEq] at ho; subst ho; intro listed f a w2 hJ hsz hls hun hdep hout hlat)
          · rw [if_pos (by rfl)]
            intro K hK
            have q4 := hout 4 (outB_spec (by kernel_rfl))
            exact Sm.wp_ld _ B C rfl q4 (d0.out.ext hJ.ext) (hK _ _ (hJ.plain (by decide) (by decide) (Ex.refl _) (fun x hx => by rw [hT] at hx; simpa using hx)))
          · rw [if_pos (by rfl)]
            intro K hK
            have q10 := hout 10 (outB_spec (by kernel_rfl))
            refine wp_mv _ rfl (hK _ _ ?_)
            rw [show a.eval (.tmp 10) = .int .i64 k from q10]
            exact hJ.plain (by decide) (by decide) (Ex.refl _) (fun x hx => by rw [hT] at hx; simpa using hx)
          · rw [if_pos (by rfl)]
            intro K hK
            have q22 := (hdep ⟨0, .data⟩ (by simp) rfl).2 _ rfl _ rfl
            rw [show f 0 = _ from hJ.vals 0 (hdep ⟨0, .data⟩ (by simp) rfl).1 (digV C) (by rw [hT]; rfl)] at q22
            have q23 := (hdep ⟨1, .data⟩ (by simp) rfl).2 _ rfl _ rfl
            rw [show f 1 = _ from hJ.vals 1 (hdep ⟨1, .data⟩ (by simp) rfl).1 (.int .i64 k) (by rw [hT]; rfl)] at q23
            rw [Array.getD_eq_getD_getElem?] at q22
            rw [Array.getD_eq_getD_getElem?] at q23
            clear hsz hdep hout hlat
            go_simp
            refine (KY.out k w2).mono ?_
            rintro e w3 ⟨rfl, xq⟩
            exact hK _ _ (hJ.plain (by decide) (by decide) xq (fun x hx => by rw [hT] at hx; simpa using hx))
          · rw [if_pos (by rfl)]
            intro K hK
            have q5 := hout 5 (outB_spec (by kernel_rfl))
            refine wp_ld45g _ (B + 1) _ _ rfl q5 (l0.out.ext hJ.ext) (hK _ _ (hJ.plain (by decide) (by decide) (Ex.refl _) (fun x hx => by rw [hT] at hx; simpa using hx)))
          · rw [if_pos (by rfl)]
            intro K hK
            have q24 := (hdep ⟨2, .data⟩ (by simp) rfl).2 _ rfl _ rfl
            rw [show f 2 = _ from hJ.vals 2 (hdep ⟨2, .data⟩ (by simp) rfl).1 (digV (keyL C k)) (by rw [hT]; rfl)] at q24
            have q25 := (hdep ⟨3, .data⟩ (by simp) rfl).2 _ rfl _ rfl
            rw [show f 3 = _ from hJ.vals 3 (hdep ⟨3, .data⟩ (by simp) rfl).1 (.agg #[.int .u64 v, ml]) (by rw [hT]; rfl)] at q25
            rw [Array.getD_eq_getD_getElem?] at q24
            rw [Array.getD_eq_getD_getElem?] at q25
            have cm := Lib.hid (MK.out k w2 (Ex.trans bw.out hJ.ext))
            unfold LV at cm
            clear hsz hdep hout hlat
            go_simp
            rw [show p.V = ml from HML.out.symm] at cm
            refine cm.out.mono ?_
            rintro e w3 ⟨rfl, xq⟩
            exact hK _ _ (hJ.plain (by decide) (by decide) xq (fun x hx => by rw [hT] at hx; simpa using hx))
          · rw [if_pos (by rfl)]
            intro K hK
            clear hsz hdep hout hlat
            go_simp
            exact hK _ _ (hJ.alloc (by decide) hun (by rw [hT]; rfl))
          · rw [if_pos (by rfl)]
            intro K hK
            have q11 := (hdep ⟨5, .data⟩ (by simp) rfl).2 _ rfl _ rfl
            have q26 := (hdep ⟨4, .data⟩ (by simp) rfl).2 _ rfl _ rfl
            rw [show f 4 = _ from hJ.vals 4 (hdep ⟨4, .data⟩ (by simp) rfl).1 (digV (markL (keyL C k) v p.l)) (by rw [hT]; rfl)] at q26
            obtain ⟨g, hg, hgb, hB⟩ := hJ.loc (hdep ⟨5, .data⟩ (by simp) rfl).1
            rw [hg] at q11
            have l9 : listed.getD 6 false = false := hun
            rw [l9, if_neg (by decide)] at hB
            refine Sm.wp_st _ _ g _ rfl q11 q26 (markL_len _ _ _) hB rfl (fun w' hd ho => hK _ _ ?_)
            exact hJ.store (by decide) (hdep ⟨5, .data⟩ (by simp) rfl).1 (by rw [hls]; decide) (by rw [hT]; rfl) hg hgb hd.2 ⟨ho.below, ho.other, ho.size⟩
        · intro listed f w2 hall hJ
          have f0 : f 0 = digV C := hJ.vals 0 (hall 0 (by simp)) _ (by rw [hT]; rfl)
          have f1 : f 1 = .int .i64 k := hJ.vals 1 (hall 1 (by simp)) _ (by rw [hT]; rfl)
          have f2 : f 2 = digV (keyL C k) := hJ.vals 2 (hall 2 (by simp)) _ (by rw [hT]; rfl)
          have f3 : f 3 = .agg #[.int .u64 v, ml] := hJ.vals 3 (hall 3 (by simp)) _ (by rw [hT]; rfl)
          have f4 : f 4 = digV (markL (keyL C k) v p.l) := hJ.vals 4 (hall 4 (by simp)) _ (by rw [hT]; rfl)
          obtain ⟨g, f5, gb, bg⟩ := hJ.loc (hall 5 (by simp))
          rw [if_pos (hall 6 (by simp))] at bg
          have xw := hJ.ext
          simp only [putAll, Act.put, List.setIfInBounds_toArray, List.set_cons_zero, List.set_cons_succ, Nat.zero_add, Nat.reduceAdd]
          rw [f0, f1, f2, f3, f4, f5]
          clear f0 f1 f2 f3 f4 f5 hJ hall hT
          have ow := Lib.hid (vown_under ow.out xw)
          have d0 := Lib.hid (d0.out.ext xw)
          have l0 := Lib.hid (l0.out.ext xw)
          have sz := Lib.hid (Nat.le_trans sz.out xw.size)
          have bw := Lib.hid (Ex.trans bw.out xw)
          obtain ⟨M, hM⟩ : ∃ M, M = markL (keyL C k) v p.l := ⟨_, rfl⟩
          rw [← hM] at VB
          have bg : Hid (DB w2 g M) := Lib.hid (by rw [hM]; exact ⟨markL_len _ _ _, bg⟩)
          have xg : Hid (∀ gg, u9.ownBlock = some gg → gg ≠ g) := Lib.hid (fun gg h e => by
            have := (World.ownsRow.lt ow0.out.2 gg h).2
            omega)
          have gb := Lib.hid (Nat.le_trans sz0.out gb)
          clear xw hM
          by_cases b2 : bits .and .i64 (bad / 2 ^ k) 1 = 1
          · rw [if_pos (show bitI bad k = 1 from b2)] at VB
            have c5 : w2.cell? ⟨g, 5, none⟩ = some (.int .u8 (M.getD 5 0).toNat) := by
              rw [bg.out.2.cell]
              have h := bg.out.1
              simp [Lib.byteCells, List.getD, h]
            have r5 : w2.frozen? ⟨g, 5, none⟩ = false := bg.out.2.fr 5
            obtain ⟨x5, hx5⟩ : ∃ x5 : Int, x5 = ((M.getD 5 0).toNat : Int) := ⟨_, rfl⟩
            have x50 : 0 ≤ x5 := by rw [hx5]; omega
            have x51 : x5 < 256 := by rw [hx5]; have := (M.getD 5 0).toNat_lt; omega
            rw [← hx5] at c5
            have HX5 := Lib.hid hx5
            clear hx5
            go_wp2_with (first | (with_reducible refine stop_build88 ?_) | (with_reducible refine stop_bs61 ?_) | (with_reducible refine Sm.stop_load59 ?_) | (with_reducible refine Sm.stop_store59 ?_) | (with_reducible refine stop_load45 ?_) | (with_reducible refine stop_store45 ?_))
            generalize hw5 : w2.setCell ⟨g, 5, none⟩ (.int .u8 (bits .xor .u8 x5 1)) = w5
            have bg5 : Hid (DB w5 g (flip5 M)) := Lib.hid (by
              rw [← hw5, HX5.out]
              refine ⟨by rw [flip5_len]; exact bg.out.1, ?_⟩
              have h := bg.out.2.put 5 (.int .u8 (bits .xor .u8 ((M.getD 5 0).toNat : Int) 1))
              rw [flip5_cells M]; exact h)
            have ho : Below (B + 2) w2 w5 := by rw [← hw5]; exact (Below.refl _ _).setCell (p := ⟨g, 5, none⟩) gb.out _
            have ow := Lib.hid (vown_cell hw5 ow.out xg.out)
            have d0 := Lib.hid (DB.under d0.out ho (by omega))
            have l0 := Lib.hid (l0.out.under ho (by omega))
            have sz := Lib.hid (Nat.le_trans sz.out ho.size)
            have bw := Lib.hid (Below.trans (show Below w.heap.size w _ from bw.out) (ho.mono (by rw [← HB.out]; omega)))
            clear hw5 ho gb HX5 x50 x51 c5 r5 xg ow0
            have bg := bg5
            clear bg5
            go_wp2_with (first | (with_reducible refine stop_build88 ?_) | (with_reducible refine stop_bs61 ?_) | (with_reducible refine Sm.stop_load59 ?_) | (with_reducible refine Sm.stop_store59 ?_) | (with_reducible refine stop_load45 ?_) | (with_reducible refine stop_store45 ?_))
            (with_reducible refine ⟨?_⟩); (with_reducible refine at_any ?_ ?_); (focus go_simp); refine fun K0 hK => Sm.wp_ld _ g (flip5 M) rfl rfl bg.out (hK _ _ ?_)
            clear hK
            go_wp2_with (first | (with_reducible refine stop_build88 ?_) | (with_reducible refine stop_bs61 ?_) | (with_reducible refine Sm.stop_load59 ?_) | (with_reducible refine Sm.stop_store59 ?_) | (with_reducible refine stop_load45 ?_) | (with_reducible refine stop_store45 ?_))
            (with_reducible refine ⟨?_⟩); (with_reducible refine at_any ?_ ?_); (focus go_simp); refine fun K0 hK => wp_build88 _ _ k (flip5 M) bg.out.1 rfl rfl rfl (hK _ _ ?_)
            clear hK
            go_wp2_with (first | (with_reducible refine stop_build88 ?_) | (with_reducible refine stop_bs61 ?_) | (with_reducible refine Sm.stop_load59 ?_) | (with_reducible refine Sm.stop_store59 ?_) | (with_reducible refine stop_load45 ?_) | (with_reducible refine stop_store45 ?_))
            (with_reducible refine ⟨?_⟩); (with_reducible refine at_any ?_ ?_); (focus go_simp); refine fun K0 hK => wp_bs61 _ ((k : Int), flip5 M) bg.out.1 rfl rfl (hK _ _ ?_)
            clear hK
            have xa : Ex w5 (w5.alloc (.cells (voC ((k : Int), flip5 M)).toArray 88)) := (Below.refl _ _).alloc (Nat.le_refl _) _
            have NEW := Lib.hid (Bk.new (w := w5) rfl 88 (voC ((k : Int), flip5 M)).toArray)
            have OW := Lib.hid (vown_under ow.out xa)
            have DA := Lib.hid (DB.ext d0.out xa)
            have LA := Lib.hid (l0.out.ext xa)
            have SZA := Lib.hid (Nat.le_trans sz.out xa.size)
            have XA := Lib.hid (Ex.trans bw.out xa)
            have BG := Lib.hid bg.out.1
            have VL := Lib.hid (votesL_len C v p.l who bad k)
            clear xa ow d0 l0 sz bw bg
            go_wp2_with (at_builtin; refine vappend rfl (.tmp 37) (.tmp 41) rfl (B + 2) _ _ rfl OW.out ((k : Int), flip5 M) BG.out w5.heap.size rfl NEW.out ?_ SZA.out ?_; (focus (exact Nat.le_trans VL.out (by omega))); intro v3 w3 hown3 hx3; have HO3 := Lib.hid hown3; have HX3 := Lib.hid hx3; clear hown3 hx3)
            have D3 := Lib.hid (DB.under DA.out HX3.out (by omega))
            have L3 := Lib.hid (LA.out.under HX3.out (by omega))
            have S3 := Lib.hid (Nat.le_trans SZA.out HX3.out.size)
            have X3 := Lib.hid (Below.trans (show Below w.heap.size w _ from XA.out) (HX3.out.mono (by rw [← HB.out]; omega)))
            have O3 : Hid (vown w3 (B + 2) v3 (votesL C v p.l who bad (k + 1))) := by rw [VS.out, VB.out]; exact HO3
            clear HO3 HX3 NEW OW DA LA SZA XA
            go_roundw
            case rel => exact ⟨k + 1, by omega, by go_num, O3, D3, L3, S3, X3⟩
            case measure => simp [intOf]; omega
          · rw [if_neg (show ¬ bitI bad k = 1 from b2)] at VB
            clear gb xg ow0
            go_wp2_with (first | (with_reducible refine stop_build88 ?_) | (with_reducible refine stop_bs61 ?_) | (with_reducible refine Sm.stop_load59 ?_) | (with_reducible refine Sm.stop_store59 ?_) | (with_reducible refine stop_load45 ?_) | (with_reducible refine stop_store45 ?_))
            (with_reducible refine ⟨?_⟩); (with_reducible refine at_any ?_ ?_); (focus go_simp); refine fun K0 hK => Sm.wp_ld _ g (M) rfl rfl bg.out (hK _ _ ?_)
            clear hK
            go_wp2_with (first | (with_reducible refine stop_build88 ?_) | (with_reducible refine stop_bs61 ?_) | (with_reducible refine Sm.stop_load59 ?_) | (with_reducible refine Sm.stop_store59 ?_) | (with_reducible refine stop_load45 ?_) | (with_reducible refine stop_store45 ?_))
            (with_reducible refine ⟨?_⟩); (with_reducible refine at_any ?_ ?_); (focus go_simp); refine fun K0 hK => wp_build88 _ _ k (M) bg.out.1 rfl rfl rfl (hK _ _ ?_)
            clear hK
            go_wp2_with (first | (with_reducible refine stop_build88 ?_) | (with_reducible refine stop_bs61 ?_) | (with_reducible refine Sm.stop_load59 ?_) | (with_reducible refine Sm.stop_store59 ?_) | (with_reducible refine stop_load45 ?_) | (with_reducible refine stop_store45 ?_))
            (with_reducible refine ⟨?_⟩); (with_reducible refine at_any ?_ ?_); (focus go_simp); refine fun K0 hK => wp_bs61 _ ((k : Int), M) bg.out.1 rfl rfl (hK _ _ ?_)
            clear hK
            have xa : Ex w2 (w2.alloc (.cells (voC ((k : Int), M)).toArray 88)) := (Below.refl _ _).alloc (Nat.le_refl _) _
            have NEW := Lib.hid (Bk.new (w := w2) rfl 88 (voC ((k : Int), M)).toArray)
            have OW := Lib.hid (vown_under ow.out xa)
            have DA := Lib.hid (DB.ext d0.out xa)
            have LA := Lib.hid (l0.out.ext xa)
            have SZA := Lib.hid (Nat.le_trans sz.out xa.size)
            have XA := Lib.hid (Ex.trans bw.out xa)
            have BG := Lib.hid bg.out.1
            have VL := Lib.hid (votesL_len C v p.l who bad k)
            clear xa ow d0 l0 sz bw bg
            go_wp2_with (at_builtin; refine vappend rfl (.tmp 37) (.tmp 41) rfl (B + 2) _ _ rfl OW.out ((k : Int), M) BG.out w2.heap.size rfl NEW.out ?_ SZA.out ?_; (focus (exact Nat.le_trans VL.out (by omega))); intro v3 w3 hown3 hx3; have HO3 := Lib.hid hown3; have HX3 := Lib.hid hx3; clear hown3 hx3)
            have D3 := Lib.hid (DB.under DA.out HX3.out (by omega))
            have L3 := Lib.hid (LA.out.under HX3.out (by omega))
            have S3 := Lib.hid (Nat.le_trans SZA.out HX3.out.size)
            have X3 := Lib.hid (Below.trans (show Below w.heap.size w _ from XA.out) (HX3.out.mono (by rw [← HB.out]; omega)))
            have O3 : Hid (vown w3 (B + 2) v3 (votesL C v p.l who bad (k + 1))) := by rw [VS.out, VB.out]; exact HO3
            clear HO3 HX3 NEW OW DA LA SZA XA
            go_roundw
            case rel => exact ⟨k + 1, by omega, by go_num, O3, D3, L3, S3, X3⟩
            case measure => simp [intOf]; omega
      · have VN := Lib.hid (show voteL C v p.l who bad k = [] from if_neg b1)
        go_wp2_with (first | (with_reducible refine stop_build88 ?_) | (with_reducible refine stop_bs61 ?_) | (with_reducible refine Sm.stop_load59 ?_) | (with_reducible refine Sm.stop_store59 ?_) | (with_reducible refine stop_load45 ?_) | (with_reducible refine stop_store45 ?_))
        go_roundw
        case rel => exact ⟨k + 1, by omega, by go_num, by rw [VS.out, VN.out, List.append_nil]; exact ow, d0, l0, sz, bw⟩
        case measure => simp [intOf]; omega
    · obtain rfl : k = 8 := by omega
      go_wp2_with (first | (with_reducible refine stop_build88 ?_) | (with_reducible refine stop_bs61 ?_) | (with_reducible refine Sm.stop_load59 ?_) | (with_reducible refine Sm.stop_store59 ?_) | (with_reducible refine stop_load45 ?_) | (with_reducible refine stop_store45 ?_))
      go_ret
      exact ⟨_, rfl, vown_less ow.out (by rw [← HB.out]; omega), bw.out⟩
theorem flatMap_len (l : List (Int × List UInt8)) (h : ∀ (i : Nat) (x : Int × List UInt8), l[i]? = some x → x.2.length = 16) : (l.flatMap voC).length = l.length * 17 := by
  induction l with
  | nil => rfl
  | cons y r ih =>
    rw [List.flatMap_cons, List.length_append, voC_len (h 0 y rfl), ih (fun k z hz => h (k + 1) z (by simpa using hz)), List.length_cons]; omega
theorem flat_get (l : List (Int × List UInt8)) (h : ∀ (i : Nat) (x : Int × List UInt8), l[i]? = some x → x.2.length = 16) (j : Nat) (u : Value) (hu : (l.flatMap voC)[j]? = some u) : ∃ x, l[j / 17]? = some x ∧ (voC x)[j % 17]? = some u := by
  have hj : j < l.length * 17 := by rw [← flatMap_len l h]; exact (List.getElem?_eq_some_iff.1 hu).1
  have h1 : j / 17 < l.length := by omega
  refine ⟨l[j / 17], List.getElem?_eq_getElem h1, ?_⟩
  have h2 := flat_at l h (j / 17) (j % 17) l[j / 17] (List.getElem?_eq_getElem h1) (by omega)
  rw [show 17 * (j / 17) + j % 17 = j by omega] at h2
  rw [← h2]; exact hu
theorem ok_app {l m : List (Int × List UInt8)} (h : ∀ (i : Nat) (x : Int × List UInt8), l[i]? = some x → x.2.length = 16) (k : ∀ (i : Nat) (x : Int × List UInt8), m[i]? = some x → x.2.length = 16) : ∀ (i : Nat) (x : Int × List UInt8), (l ++ m)[i]? = some x → x.2.length = 16 := fun i x hx => by
  rcases Nat.lt_or_ge i l.length with hi | hi
  · exact h i x (by rw [← hx, List.getElem?_append_left hi])
  · rw [List.getElem?_append_right hi] at hx; exact k _ x hx
theorem Vp.In.cells {p : Vp} {w : World} {B : Nat} (h : p.In w B) (h0 : 0 < p.l.length) : ∃ ad, p.ad = some ad ∧ ∀ j u, (p.l.flatMap voC)[j]? = some u → w.cell? (ad.add j) = some u := by
  obtain ⟨a, o, e, _, hc⟩ := h.read h0
  refine ⟨_, e, fun j u hu => ?_⟩
  obtain ⟨x, hx, hv⟩ := flat_get p.l h.ok j u hu
  have := hc (j / 17) x hx (j % 17) u hv
  rw [Addr.add_lit, show o + j = o + 17 * (j / 17) + j % 17 by omega]
  exact this
theorem flat_one (l : List (Int × List UInt8)) : ∀ u ∈ l.flatMap voC, u.oneCell' = true := fun u hu => by
  obtain ⟨x, _, hx⟩ := List.mem_flatMap.1 hu
  exact voC_one x u hx
/-- append to a row of votes that is its own: what was there reads as before -/
theorem vapp_keep {w : World} (ty : TypeId) (B : Nat) (p q : Vp) (ho : vown w B p.V p.l) (hp : p.In w w.heap.size) (hq : q.In w w.heap.size) (hB : B ≤ w.heap.size) (hN : p.l.length + q.l.length ≤ 1000000) :
    ∃ v' w', (Builtin.append_ #[61, 61] ty #[p.V, q.V]).run Try.prog w = .ok v' w' ∧ vown w' B v' (p.l ++ q.l) ∧ Below B w w' ∧ p.In w' w'.heap.size := by
  obtain ⟨i0, hi0, hz0, hz1, hz2⟩ := info_parts Try.info88
  cases hqa : q.ad with
  | none =>
    have hq0 : q.cap = 0 := hq.nil hqa
    have hql : q.l = [] := List.eq_nil_of_length_eq_zero (by have := hq.cap; omega)
    have hqv : q.V = .slice none 0 0 := by unfold Vp.V; rw [hqa, hq0, hql]; rfl
    rw [hqv]
    exact ⟨_, _, run_append_owned_none w B 61 ty 88 i0 17 Try.underlying61 hi0 p.V _ _ ho.2, by rw [hql, List.append_nil]; exact ho, Below.refl _ _, hp⟩
  | some adq =>
    have hcq : ∀ j u, (q.l.flatMap voC)[j]? = some u → w.cell? (adq.add j) = some u := fun j u hu => by
      have h0 : 0 < q.l.length := by
        have := (List.getElem?_eq_some_iff.1 hu).1
        rw [flatMap_len q.l hq.ok] at this; omega
      obtain ⟨ad, e, hc⟩ := hq.cells h0
      rw [hqa] at e; cases e
      exact hc j u hu
    have hl : (q.l.flatMap voC).length = q.l.length * 17 := flatMap_len q.l hq.ok
    have hqv : q.V = .slice (some adq) q.l.length q.cap := by unfold Vp.V; rw [hqa]
    rw [hqv]
    have ho' := ho
    obtain ⟨h0, h1, ⟨hv, hn0⟩ | ⟨g, cap, cur, hv, hbg, hg, hnc, hcm, hcs, ht⟩⟩ := ho'
    · obtain ⟨v', w', hr, r1, r2, _⟩ := run_append_own (P := Try.prog) w B 61 ty 88 i0 _ 17 24 Try.underlying61 hi0 hz0 hz1 hz2 rfl (by omega) p.V p.l.length (p.l.flatMap voC) ho.2 adq q.l.length q.cap (q.l.flatMap voC) hl hcq (flat_one q.l) (by unfold maxLen; omega) (by omega) hB
      have hx : Ex w w' := (Below.refl _ _).grown r2 (Nat.le_refl _) (fun k hk => by rw [hv] at hk; cases hk)
      exact ⟨v', w', hr, ⟨ok_app ho.1 hq.ok, by rw [List.length_append, List.flatMap_append]; exact r1⟩, hx.mono hB, hp.ext hx⟩
    · have hcap : p.cap = cap := by unfold Vp.V at hv; injection hv
      have had : p.ad = some ⟨g, 0, none⟩ := by unfold Vp.V at hv; injection hv
      by_cases hroom : p.l.length + q.l.length ≤ cap
      · have hfit : p.l.length * i0.size + (q.l.flatMap voC).length ≤ cur.size := by rw [hl, hcs, hz1, ← Nat.add_mul]; exact Nat.mul_le_mul_right _ hroom
        have hr := run_append_room (P := Try.prog) w 61 ty 88 i0 Try.underlying61 hi0 g p.l.length cap cur hg adq q.l.length q.cap (q.l.flatMap voC) (by rw [hl, hz1]) hcq (flat_one q.l) hroom hfit
        rw [hz1] at hr
        have hlp : (p.l.flatMap voC).length = p.l.length * 17 := flatMap_len p.l hp.ok
        have hset := setRow_heap w g cur (cur.toList.take (p.l.length * 17) ++ q.l.flatMap voC ++ cur.toList.drop (p.l.length * 17 + (q.l.flatMap voC).length)).toArray 88 _ hg
        have hsz : (cur.toList.take (p.l.length * 17) ++ q.l.flatMap voC ++ cur.toList.drop (p.l.length * 17 + (q.l.flatMap voC).length)).toArray.size = cap * 17 := by
          simp only [List.size_toArray, List.length_append, List.length_take, List.length_drop, Array.length_toList]
          rw [hl] at *
          rw [hz1] at hfit
          omega
        rw [hv]
        refine ⟨_, _, hr, ⟨ok_app ho.1 hq.ok, ?_, .inr ⟨g, cap, _, by rw [List.length_append], hbg, hset, by rw [List.length_append]; exact hroom, hcm, hsz, ?_⟩⟩, below_setRow (Below.refl _ _) hbg _, ?_⟩
        · rw [List.flatMap_append, List.length_append, List.length_append, hlp, hl, Nat.add_mul]
        · rw [ht, List.flatMap_append]
          have e : (p.l ++ q.l).length * 17 = (p.l.flatMap voC ++ q.l.flatMap voC).length := by rw [List.length_append, List.length_append, hlp, hl, Nat.add_mul]
          rw [e]; exact List.take_left
        · have ow : vown (w.setRow g (cur.toList.take (p.l.length * 17) ++ q.l.flatMap voC ++ cur.toList.drop (p.l.length * 17 + (q.l.flatMap voC).length)).toArray) B p.V p.l := by
            refine ⟨h0, h1, .inr ⟨g, cap, _, hv, hbg, hset, hnc, hcm, hsz, ?_⟩⟩
            rw [ht, List.append_assoc, ← hlp]
            exact List.take_left
          obtain ⟨p2, e1, e2, e3⟩ := vown_vp ow
          have : p2 = p := by
            obtain ⟨a1, c1, l1⟩ := p2
            obtain ⟨a2, c2, l2⟩ := p
            unfold Vp.V at e1
            simp only at e1 e2
            subst e2
            obtain ⟨x1, x2, x3⟩ := Value.slice.inj e1
            subst x1; subst x3; rfl
          rw [this] at e3; exact e3
      · have holds : ∀ j u, (p.l.flatMap voC)[j]? = some u → w.cell? ((⟨g, 0, none⟩ : Addr).add j) = some u := ho.2.cells (g := g) (by rw [hv]; rfl)
        rw [hv]
        obtain ⟨v', w', hr, r1, r2⟩ := run_append_arg_grows (P := Try.prog) w 61 ty 88 i0 _ 17 24 Try.underlying61 hi0 hz0 hz1 hz2 rfl (by omega) ⟨g, 0, none⟩ p.l.length cap (p.l.flatMap voC) h1 holds adq q.l.length q.cap (q.l.flatMap voC) hl hcq (by omega) (by unfold maxLen; omega) (by omega)
        have hx : Ex w w' := (Below.refl _ _).grown r2 (Nat.le_refl _) (fun k hk => by cases hk)
        exact ⟨v', w', hr, vown_less ⟨ok_app ho.1 hq.ok, by rw [List.length_append, List.flatMap_append]; exact r1⟩ hB, hx.mono hB, hp.ext hx⟩
theorem wp_vapp {o : Oper} {a : Act} {w : World} {K : Act → World → Prop} {Q : Exit → Act → World → Prop} (s x : Operand)
    (hop : o.op = .call { callee := .builtin .append, args := #[s, x], argTypes := #[61, 61] }) (B : Nat) (p q : Vp) (hs : a.eval s = p.V) (hx : a.eval x = q.V)
    (ho : vown w B p.V p.l) (hp : p.In w w.heap.size) (hq : q.In w w.heap.size) (hB : B ≤ w.heap.size) (hN : p.l.length + q.l.length ≤ 1000000)
    (h : ∀ v' w', vown w' B v' (p.l ++ q.l) → Below B w w' → p.In w' w'.heap.size → K (a.put o.dst v') w') : o.wp Try.prog a w K Q := by
  obtain ⟨v', w', hrun, r1, r2, r3⟩ := vapp_keep o.type B p q ho hp hq hB hN
  unfold Oper.wp
  simp [execOp, hop, resolve, invoke, builtin, hs, hx, hrun, Result.andThen]
  exact h v' w' r1 r2 r3
/-- with each operation all that binds it -/
def Clo (ops : Array Oper) (listed : Array Bool) : Prop := ∀ (i : Nat) (o : Oper), ops[i]? = some o → listed.getD i false = true → ∀ e, e ∈ o.after → Region.binds .any e = true → listed.getD e.on false = true
end Go.Proofs.Ytgoiidpcdifojaa
namespace Go.Proofs.Ytgoiidpcdifojaa
open Go.RowKit
open Sm (digV DB by8 sumL numL zero16 by8_int)
/-- the law's region: L the votes, M the others; base: the world ahead of the votes -/
structure JT (base : World) (B1 : Nat) (p : Vp) (M : List (Int × List UInt8)) (T : List (Option Value)) (listed : Array Bool) (f : Nat → Value) (w : World) : Prop where
  ext : Ex base w
  lo : B1 ≤ w.heap.size
  pin : p.In w B1
  vals : ∀ (i : Nat), listed.getD i false = true → ∀ x, T.getD i none = some x → f i = x
  s0 : listed.getD 11 false = false → vown w base.heap.size p.V p.l
  s11 : listed.getD 11 false = true → listed.getD 12 false = false → ∃ r : Vp, f 11 = r.V ∧ r.l = p.l ++ p.l ∧ r.In w w.heap.size
  s18 : listed.getD 18 false = true → listed.getD 20 false = false → vown w B1 (f 18) []
  s20 : listed.getD 20 false = true → listed.getD 22 false = false → vown w B1 (f 20) M
  s22 : listed.getD 22 false = true → listed.getD 23 false = false → ∃ r : Vp, f 22 = r.V ∧ r.l = M ++ p.l ∧ r.In w w.heap.size
theorem set_false {l : Array Bool} {i k : Nat} (h : (l.setIfInBounds i true).getD k false = false) : l.getD k false = false := by
  by_cases e : i = k
  · subst e
    rw [Array.getD_eq_getD_getElem?] at h ⊢
    by_cases hi : i < l.size
    · rw [Array.getElem?_setIfInBounds_self_of_lt hi] at h; cases h
    · rw [Array.getElem?_eq_none (by omega)]; rfl
  · rwa [bit_set e] at h
section
variable {base : World} {B1 : Nat} {p : Vp} {M : List (Int × List UInt8)} {T : List (Option Value)} {listed : Array Bool} {f : Nat → Value} {w w' : World} {i : Nat} {v : Value}
theorem JT.up (h : JT base B1 p M T listed f w) (hv : ∀ x, T.getD i none = some x → v = x) : ∀ (j : Nat), (listed.setIfInBounds i true).getD j false = true → ∀ x, T.getD j none = some x → upd f i v j = x := fun j hj x hx => by
  by_cases e : j = i
  · subst e; rw [upd_same]; exact hv x hx
  · rw [upd_ne _ _ e]
    rcases listed_set hj with rfl | hj
    · exact absurd rfl e
    · exact h.vals j hj x hx
theorem JT.next (h : JT base B1 p M T listed f w) (n11 : i ≠ 11) (n18 : i ≠ 18) (n20 : i ≠ 20) (n22 : i ≠ 22) (hx : Ex w w') (hv : ∀ x, T.getD i none = some x → v = x) : JT base B1 p M T (listed.setIfInBounds i true) (upd f i v) w' := by
  refine ⟨Ex.trans h.ext hx, Nat.le_trans h.lo hx.size, h.pin.keep (hx.mono h.lo), h.up hv, fun h1 => vown_under (h.s0 (set_false h1)) hx, fun h1 h2 => ?_, fun h1 h2 => ?_, fun h1 h2 => ?_, fun h1 h2 => ?_⟩
  · rw [upd_ne _ _ (Ne.symm n11)]; rw [bit_set n11] at h1
    obtain ⟨r, e1, e2, e3⟩ := h.s11 h1 (set_false h2)
    exact ⟨r, e1, e2, e3.ext hx⟩
  · rw [upd_ne _ _ (Ne.symm n18)]; rw [bit_set n18] at h1
    exact vown_under (h.s18 h1 (set_false h2)) hx
  · rw [upd_ne _ _ (Ne.symm n20)]; rw [bit_set n20] at h1
    exact vown_under (h.s20 h1 (set_false h2)) hx
  · rw [upd_ne _ _ (Ne.symm n22)]; rw [bit_set n22] at h1
    obtain ⟨r, e1, e2, e3⟩ := h.s22 h1 (set_false h2)
    exact ⟨r, e1, e2, e3.ext hx⟩
theorem in_back {B B' : Nat} (h : p.In w B) (k : p.In w' B') : p.In w' B := by
  refine ⟨h.cap, h.nil, h.ok, fun h0 => ?_⟩
  obtain ⟨a, o, e, hB, _⟩ := h.read h0
  obtain ⟨a', o', e', _, hc⟩ := k.read h0
  rw [e] at e'; cases e'
  exact ⟨a, o, e, hB, hc⟩
theorem JT.at11 (h : JT base B1 p M T listed f w) (hb1 : base.heap.size ≤ B1) (hs : 11 < listed.size) (l18 : listed.getD 18 false = false) (l20 : listed.getD 20 false = false) (l22 : listed.getD 22 false = false) (hv : T.getD 11 none = none)
    (ho : vown w' base.heap.size v (p.l ++ p.l)) (hx : Below base.heap.size w w') (hp : p.In w' w'.heap.size) : JT base B1 p M T (listed.setIfInBounds 11 true) (upd f 11 v) w' := by
  refine ⟨Below.trans h.ext hx, Nat.le_trans h.lo hx.size, in_back h.pin hp, h.up (fun x hx => by rw [hv] at hx; cases hx), fun h1 => ?_, fun _ _ => ?_, fun h1 h2 => ?_, fun h1 h2 => ?_, fun h1 h2 => ?_⟩
  · rw [bit_new hs] at h1; cases h1
  · rw [upd_same]; obtain ⟨r, e1, e2, e3⟩ := vown_vp ho; exact ⟨r, e1, e2, e3⟩
  · rw [bit_set (by decide), l18] at h1; cases h1
  · rw [bit_set (by decide), l20] at h1; cases h1
  · rw [bit_set (by decide), l22] at h1; cases h1
theorem JT.at18 (h : JT base B1 p M T listed f w) (hv : T.getD 18 none = none) : JT base B1 p M T (listed.setIfInBounds 18 true) (upd f 18 (.slice (some ⟨w.heap.size, 0, none⟩) 0 0)) (w.alloc (.cells #[] 88)) := by
  have hx : Ex w (w.alloc (.cells (#[] : Array Value) 88)) := (Below.refl _ _).alloc (Nat.le_refl _) _
  refine ⟨Ex.trans h.ext hx, Nat.le_trans h.lo hx.size, h.pin.keep (hx.mono h.lo), h.up (fun x hx => by rw [hv] at hx; cases hx), fun h1 => vown_under (h.s0 (set_false h1)) hx, fun h1 h2 => ?_, fun h1 h2 => ?_, fun h1 h2 => ?_, fun h1 h2 => ?_⟩
  · rw [upd_ne _ _ (by decide)]; rw [bit_set (by decide)] at h1
    obtain ⟨r, e1, e2, e3⟩ := h.s11 h1 (set_false h2)
    exact ⟨r, e1, e2, e3.ext hx⟩
  · rw [upd_same]; exact ⟨fun i x h => by simp at h, World.ownsRow_lit w #[] 0 h.lo (by unfold maxLen; omega) rfl⟩
  · rw [upd_ne _ _ (by decide)]; rw [bit_set (by decide)] at h1
    exact vown_under (h.s20 h1 (set_false h2)) hx
  · rw [upd_ne _ _ (by decide)]; rw [bit_set (by decide)] at h1
    obtain ⟨r, e1, e2, e3⟩ := h.s22 h1 (set_false h2)
    exact ⟨r, e1, e2, e3.ext hx⟩
theorem JT.at20 (h : JT base B1 p M T listed f w) (hb1 : base.heap.size ≤ B1) (hs : 20 < listed.size) (l11 : listed.getD 11 false = true) (l12 : listed.getD 12 false = true) (l22 : listed.getD 22 false = false) (hv : T.getD 20 none = none)
    (ho : vown w' B1 v M) (hx : Below B1 w w') : JT base B1 p M T (listed.setIfInBounds 20 true) (upd f 20 v) w' := by
  refine ⟨Below.trans h.ext (hx.mono hb1), Nat.le_trans h.lo hx.size, h.pin.keep hx, h.up (fun x hx => by rw [hv] at hx; cases hx), fun h1 => ?_, fun h1 h2 => ?_, fun h1 h2 => ?_, fun h1 h2 => ?_, fun h1 h2 => ?_⟩
  · rw [bit_set (by decide), l11] at h1; cases h1
  · rw [bit_set (by decide), l12] at h2; cases h2
  · rw [bit_new hs] at h2; cases h2
  · rw [upd_same]; exact ho
  · rw [bit_set (by decide), l22] at h1; cases h1
theorem JT.at22 (h : JT base B1 p M T listed f w) (hb1 : base.heap.size ≤ B1) (hs : 22 < listed.size) (l11 : listed.getD 11 false = true) (l12 : listed.getD 12 false = true) (l20 : listed.getD 20 false = true) (hv : T.getD 22 none = none)
    (ho : vown w' B1 v (M ++ p.l)) (hx : Below B1 w w') : JT base B1 p M T (listed.setIfInBounds 22 true) (upd f 22 v) w' := by
  refine ⟨Below.trans h.ext (hx.mono hb1), Nat.le_trans h.lo hx.size, h.pin.keep hx, h.up (fun x hx => by rw [hv] at hx; cases hx), fun h1 => ?_, fun h1 h2 => ?_, fun h1 h2 => ?_, fun h1 h2 => ?_, fun _ _ => ?_⟩
  · rw [bit_set (by decide), l11] at h1; cases h1
  · rw [bit_set (by decide), l12] at h2; cases h2
  · rw [bit_set (by decide), l20] at h2; cases h2
  · rw [bit_new hs] at h2; cases h2
  · rw [upd_same]; obtain ⟨r, e1, e2, e3⟩ := vown_vp ho; exact ⟨r, e1, e2, e3⟩
end
theorem Clo.step {ops : Array Oper} {listed : Array Bool} {i : Nat} {o : Oper} (h : Clo ops listed) (hi : ops[i]? = some o) (hcl : ∀ e, e ∈ o.after → Region.binds .any e = true → listed.getD e.on false = true) : Clo ops (listed.setIfInBounds i true) := by
  intro j oj hj hl e he hb
  have mono : ∀ k, listed.getD k false = true → (listed.setIfInBounds i true).getD k false = true := fun k hk => by
    by_cases h1 : i = k
    · subst h1
      have : i < listed.size := by
        rcases Nat.lt_or_ge i listed.size with h2 | h2
        · exact h2
        · rw [Array.getD_eq_getD_getElem?, Array.getElem?_eq_none h2] at hk; cases hk
      exact bit_new this
    · rw [bit_set h1]; exact hk
  rcases listed_set hl with rfl | hl'
  · rw [hi] at hj; cases hj
    exact mono _ (hcl e he hb)
  · exact mono _ (h j oj hj hl' e he hb)
theorem wp_region_cl {P : Program} {Q : Exit → Act → World → Prop} {a0 : Act} {w0 : World} {id : Nat} {l : List Oper} (J : Array Bool → (Nat → Value) → World → Prop) (hm : P.follows .mixedOrders = true) (hb : backB l.toArray = true) (hd : dstB l.toArray = true)
    (hfit : ∀ (i : Nat) (o : Oper), l.toArray[i]? = some o → ∀ t, o.dst = some t → t < a0.tmps.size)
    (h0 : ∀ listed f, (∀ i, listed.getD i false = false) → J listed f w0.drew)
    (H : ∀ (i : Nat) (o : Oper), l.toArray[i]? = some o → AskG P l.toArray Q a0 (fun li f W => J li f W ∧ Clo l.toArray li) i o)
    (L : ∀ listed f w, (∀ i, i < l.toArray.size → listed.getD i false = true) → J listed f w ∧ Clo l.toArray listed → Q .normal (putAll f 0 l a0) w) :
    (Code.region id l.toArray true).wp P Q a0 w0 :=
  wp_region_gen (fun li f W => J li f W ∧ Clo l.toArray li) hm hb hd hfit (fun li f h => ⟨h0 li f h, fun i _ _ hl => absurd hl (by rw [h i]; decide)⟩) H L
theorem xor_pow (b k : Nat) (hb : b < 256) (hk : k < 8) : bits .xor .i64 (b : Int) ((2 ^ k : Nat) : Int) = ((b ^^^ 2 ^ k : Nat) : Int) ∧ b ^^^ 2 ^ k < 256 := by
  have h : ((List.range 256).all fun b => (List.range 8).all fun k => decide (bits .xor .i64 ((b : Nat) : Int) ((2 ^ k : Nat) : Int) = ((b ^^^ 2 ^ k : Nat) : Int)) && decide (b ^^^ 2 ^ k < 256)) = true := by decide +kernel
  have h1 := List.all_eq_true.1 (List.all_eq_true.1 h b (List.mem_range.2 hb)) k (List.mem_range.2 hk)
  simpa using h1
set_option maxHeartbeats 16000000 in
set_option maxRecDepth 100000 in
theorem tells15_law (C : List UInt8) (hC : C.length = 16) (xa xb who bad v ur : Int) (hv0 : 0 ≤ v) (hv1 : v < 18446744073709551616) (hu0 : 0 ≤ ur) (hu1 : ur < 18446744073709551616) (pr : Pt) (m0 : Vp) (w : World) (hpr : pr.In w w.heap.size) (hprL : pr.l.length ≤ 9223372036854775807) (hm0 : m0.In w w.heap.size) (hm0L : m0.l.length ≤ 9223372036854775807) :
    Calls Try.prog 11 #[digV C, .int .i64 xa, .int .i64 xb, .int .i64 who, .int .i64 bad, .int .u64 v, LV ur pr, m0.V] w fun e w' => e = .returned (.bool true) ∧ Below w.heap.size w w' := by
  obtain ⟨b, hb, _, e255⟩ := and_mask xa 255 (by decide)
  obtain ⟨k, hk, hk7, e7⟩ := and_mask (xb / 2) 7 (by decide)
  obtain ⟨c, hc, hc1, e1⟩ := and_mask xb 1 (by decide)
  have hk8 : k < 8 := by have := Nat.and_le_right (n := k) (m := 7); omega
  have hc2 : c < 2 := by have := Nat.and_le_right (n := c) (m := 1); omega
  have e255 : bits .and .i64 xa 255 = (b : Int) := e255
  have e7 : bits .and .i64 (xb / 2) 7 = (k : Int) := e7
  have e1 : bits .and .i64 xb 1 = (c : Int) := e1
  obtain ⟨ul, hul⟩ : ∃ u, u = 1 + v % 4 := ⟨_, rfl⟩
  obtain ⟨un, hun⟩ : ∃ u, u = 1 + v % 4 + (c : Int) := ⟨_, rfl⟩
  obtain ⟨hx, hxb⟩ := xor_pow b k hb hk8
  have KN := Lib.hid known15_any
  have LL := Lib.hid (fun W => (show Calls Try.prog 37 #[.int .u64 (1 + v % 4), .int .i64 (b : Int)] W (ListPost ul (mem8 b 8) W) by rw [← hul]; exact list15_any ul b hb W))
  have LN := Lib.hid (fun W => (show Calls Try.prog 37 #[.int .u64 (1 + v % 4 + (c : Int)), .int .i64 ((b ^^^ 2 ^ k : Nat) : Int)] W (ListPost un (mem8 (b ^^^ 2 ^ k) 8) W) by rw [← hun]; exact list15_any un (b ^^^ 2 ^ k) hxb W))
  have UL := Lib.hid (show 0 ≤ ul ∧ ul < 18446744073709551616 by omega)
  have UN := Lib.hid (show 0 ≤ un ∧ un < 18446744073709551616 by omega)
  have UR := Lib.hid (show 0 ≤ ur ∧ ur < 18446744073709551616 by omega)
  obtain ⟨cs, hcs⟩ : ∃ cs, cs = (Lib.byteCells C).toArray := ⟨_, rfl⟩
  obtain ⟨mr, hmr⟩ : ∃ mr, mr = pr.V := ⟨_, rfl⟩
  have D0 : Hid (DB ((w.alloc (.cells cs 59)).alloc (.cells #[.int .u64 ur, mr] 45)) w.heap.size C) := Lib.hid ⟨hC, by rw [hcs]; exact (Sm.Bk.new rfl _ _).more _⟩
  have A14 : Hid (LB ((w.alloc (.cells cs 59)).alloc (.cells #[.int .u64 ur, mr] 45)) (w.heap.size + 1) ur pr) := Lib.hid (by unfold LB; rw [← hmr]; exact Bk.new (by simp) _ _)
  have BW := Lib.hid (show Ex w ((w.alloc (.cells cs 59)).alloc (.cells #[.int .u64 ur, mr] 45)) from ((Below.refl _ _).alloc (Nat.le_refl _) _).alloc (by simp) _)
  have PR := Lib.hid (Pt.In.ext hpr BW.out)
  have MI0 := Lib.hid (Vp.In.ext hm0 BW.out)
  have HC := Lib.hid hC
  have HPRL := Lib.hid hprL
  obtain ⟨ad0, cap0, l0⟩ := m0
  simp only at hm0L
  obtain ⟨n0, hn0⟩ : ∃ n, n = l0.length := ⟨_, rfl⟩
  have HN0 := Lib.hid hn0
  have HCAP0 := Lib.hid (show n0 ≤ cap0 by rw [hn0]; exact hm0.cap)
  rw [show (Calls Try.prog 11 #[digV C, .int .i64 xa, .int .i64 xb, .int .i64 who, .int .i64 bad, .int .u64 v, LV ur pr, (Vp.mk ad0 cap0 l0).V] w) = (Calls Try.prog 11 #[.agg cs, .int .i64 xa, .int .i64 xb, .int .i64 who, .int .i64 bad, .int .u64 v, .agg #[.int .u64 ur, mr], .slice ad0 n0 cap0] w) by rw [hcs, hmr, hn0]; rfl]
  rw [← hn0] at hm0L
  have HM0L := Lib.hid hm0L
  clear hcs hmr hC hk hk7 hb hul hun hpr hprL hm0 hxb hn0 hu0 hu1 hc hc1 hm0L
  go_enter Try.func11, Try.ntmps11
  go_wp2_with (first | (with_reducible refine Sm.stop_load59 ?_) | (with_reducible refine Sm.stop_store59 ?_) | (with_reducible refine stop_load45 ?_) | (with_reducible refine stop_store45 ?_))
  generalize hw1 : (w.alloc (.cells cs 59)).alloc (.cells #[.int .u64 ur, mr] 45) = w1 at *
  obtain ⟨g8, hg8⟩ : ∃ B, B = w.heap.size := ⟨_, rfl⟩
  rw [← hg8] at D0 A14 ⊢
  obtain ⟨g14, hg14⟩ : ∃ B, B = g8 + 1 := ⟨_, rfl⟩
  rw [← hg14] at A14 ⊢
  clear hw1 hg8 hg14
  refine (LL.out _).mono ?_
  rintro e w2 ⟨pl, rfl, hll, PL, xr⟩
  have MI := MI0
  replace D0 := Lib.hid (DB.ext D0.out xr)
  replace A14 := Lib.hid (LB.ext A14.out xr)
  replace BW := Lib.hid (Ex.trans BW.out xr)
  replace PR := Lib.hid (Pt.In.ext PR.out xr)
  replace MI := Lib.hid (Vp.In.ext MI.out xr)
  clear xr LL MI0
  have HLL := Lib.hid hll
  clear hll
  go_wp2_with (first | (with_reducible refine Sm.stop_load59 ?_) | (with_reducible refine Sm.stop_store59 ?_) | (with_reducible refine stop_load45 ?_) | (with_reducible refine stop_store45 ?_))
  (with_reducible refine ⟨?_⟩); (with_reducible refine at_any ?_ ?_); (focus go_simp); refine fun K0 hK => wp_st45 _ _ w2.heap.size ul 0 pl nilP rfl rfl rfl (Bk.new rfl _ _) (fun w2b hd ho => hK _ _ ?_)
  replace D0 := Lib.hid (DB.ext D0.out ho.ex)
  replace A14 := Lib.hid (LB.ext A14.out ho.ex)
  replace BW := Lib.hid (Ex.trans BW.out ho.ex)
  replace PR := Lib.hid (Pt.In.ext PR.out ho.ex)
  replace MI := Lib.hid (Vp.In.ext MI.out ho.ex)
  replace PL := Lib.hid ((PL.ext ((Below.refl _ _).alloc (Nat.le_refl _) _)).st (n := 0) (q := nilP) ho (Bk.new rfl _ _))
  generalize w2.heap.size = g17 at hd ⊢
  have A17 := Lib.hid hd
  clear hK ho hd
  have W7 := Lib.hid (show wrap64 ((2 : Int) ^ k) = ((2 ^ k : Nat) : Int) by
    have h2 : 2 ^ k < 2 ^ 8 := Nat.pow_lt_pow_right (by decide) (by omega)
    have h3 : ((2 : Int) ^ k) = ((2 ^ k : Nat) : Int) := by norm_cast
    rw [h3]
    generalize 2 ^ k = z at h2
    exact IntWalk.wrap64_in _ ⟨by omega, by omega⟩)
  have HX := Lib.hid hx
  clear hx
  go_wp2_with (first | (with_reducible refine Sm.stop_load59 ?_) | (with_reducible refine Sm.stop_store59 ?_) | (with_reducible refine stop_load45 ?_) | (with_reducible refine stop_store45 ?_))
  rw [W7.out, HX.out]
  refine (LN.out _).mono ?_
  rintro e w3 ⟨pn, rfl, hln, PN, xr⟩
  replace D0 := Lib.hid (DB.ext D0.out xr)
  replace A14 := Lib.hid (LB.ext A14.out xr)
  replace A17 := Lib.hid (LB.ext A17.out xr)
  replace BW := Lib.hid (Ex.trans BW.out xr)
  replace PR := Lib.hid (Pt.In.ext PR.out xr)
  replace MI := Lib.hid (Vp.In.ext MI.out xr)
  replace PL := Lib.hid (Pt.In.ext PL.out xr)
  clear xr LN W7 HX
  have HLN := Lib.hid hln
  clear hln
  go_wp2_with (first | (with_reducible refine Sm.stop_load59 ?_) | (with_reducible refine Sm.stop_store59 ?_) | (with_reducible refine stop_load45 ?_) | (with_reducible refine stop_store45 ?_))
  (with_reducible refine ⟨?_⟩); (with_reducible refine at_any ?_ ?_); (focus go_simp); refine fun K0 hK => wp_st45 _ _ w3.heap.size un 0 pn nilP rfl rfl rfl (Bk.new rfl _ _) (fun w3b hd ho => hK _ _ ?_)
  replace D0 := Lib.hid (DB.ext D0.out ho.ex)
  replace A14 := Lib.hid (LB.ext A14.out ho.ex)
  replace A17 := Lib.hid (LB.ext A17.out ho.ex)
  replace BW := Lib.hid (Ex.trans BW.out ho.ex)
  replace PR := Lib.hid (Pt.In.ext PR.out ho.ex)
  replace MI := Lib.hid (Vp.In.ext MI.out ho.ex)
  replace PL := Lib.hid (Pt.In.ext PL.out ho.ex)
  replace PN := Lib.hid ((PN.ext ((Below.refl _ _).alloc (Nat.le_refl _) _)).st (n := 0) (q := nilP) ho (Bk.new rfl _ _))
  generalize w3.heap.size = g18 at hd ⊢
  have A18 := Lib.hid hd
  clear hK ho hd
  go_wp2_with (first | (with_reducible refine Sm.stop_load59 ?_) | (with_reducible refine Sm.stop_store59 ?_) | (with_reducible refine stop_load45 ?_) | (with_reducible refine stop_store45 ?_))
  (with_reducible refine ⟨?_⟩); (with_reducible refine at_any ?_ ?_); (focus go_simp); refine fun K0 hK => Sm.wp_ld _ g8 C rfl rfl D0.out (hK _ _ ?_)
  clear hK
  go_wp2_with (first | (with_reducible refine Sm.stop_load59 ?_) | (with_reducible refine Sm.stop_store59 ?_) | (with_reducible refine stop_load45 ?_) | (with_reducible refine stop_store45 ?_))
  (with_reducible refine ⟨?_⟩); (with_reducible refine at_any ?_ ?_); (focus go_simp); refine fun K0 hK => wp_ld45 _ g18 un pn rfl rfl A18.out (hK _ _ ?_)
  clear hK
  have hpn8 := mem8_len (b ^^^ 2 ^ k) 8
  rw [← HLN.out] at hpn8
  have hpl8 := mem8_len b 8
  rw [← HLL.out] at hpl8
  have VO := Lib.hid (votes_own C HC.out un UN.out.1 UN.out.2 pn hpn8 who bad w3b PN.out)
  have HVL := Lib.hid (votesL_len C un pn.l who bad 8)
  have HPN8 := Lib.hid hpn8
  have HPL8 := Lib.hid hpl8
  clear hpn8 hpl8
  unfold LV at VO
  go_wp2_with (first | (with_reducible refine Sm.stop_load59 ?_) | (with_reducible refine Sm.stop_store59 ?_) | (with_reducible refine stop_load45 ?_) | (with_reducible refine stop_store45 ?_))
  refine VO.out.mono ?_
  rintro e w4 ⟨wv, rfl, how, xr⟩
  obtain ⟨L, hL⟩ : ∃ L, L = votesL C un pn.l who bad 8 := ⟨_, rfl⟩
  rw [← hL] at how HVL
  clear hL VO
  obtain ⟨p, hpv, hpl, hpin⟩ := vown_vp how
  rw [← hpl] at HVL
  have HPV := Lib.hid hpv
  have HLP := HVL
  rw [hpv, ← hpl] at how
  obtain ⟨B1, hB1⟩ : ∃ B, B = w4.heap.size := ⟨_, rfl⟩
  have HB1 := Lib.hid (show w3b.heap.size ≤ B1 by rw [hB1]; exact xr.size)
  have JT0 := Lib.hid (fun (Mo : List (Int × List UInt8)) (T : List (Option Value)) (listed : Array Bool) (f : Nat → Value) (h : ∀ i, listed.getD i false = false) => (show JT w3b B1 p Mo T listed f w4.drew from
    ⟨Ex.trans xr (show Ex w4 w4.drew from (Below.refl _ _).drew), by rw [hB1]; exact Nat.le_refl _, by rw [hB1]; exact hpin.keep ((Below.refl _ _).drew), fun i hi => absurd hi (by rw [h i]; decide), fun _ => vown_under how ((Below.refl _ _).drew), fun h1 => absurd h1 (by rw [h 11]; decide), fun h1 => absurd h1 (by rw [h 18]; decide), fun h1 => absurd h1 (by rw [h 20]; decide), fun h1 => absurd h1 (by rw [h 22]; decide)⟩))
  clear how hpv hpl hpin hB1 xr
  have SLN := Lib.hid (fun (r : Vp) (W : World) (x : Ex w3b W) (hr : r.In W W.heap.size) (hl : r.l.length ≤ 9223372036854775807) => (show Calls Try.prog 38 #[digV C, LV ul pl, LV un pn, r.V] W fun e w' => e = .returned (.bool true) ∧ Below W.heap.size W w' from same15_any C HC.out ul un UN.out.1 UN.out.2 pl pn r W (Pt.In.ext PL.out x) (Pt.In.ext PN.out x) hr hl (Nat.le_trans HPN8.out (by decide))))
  have SRN := Lib.hid (fun (r : Vp) (W : World) (x : Ex w3b W) (hr : r.In W W.heap.size) (hl : r.l.length ≤ 9223372036854775807) => (show Calls Try.prog 38 #[digV C, LV ur pr, LV un pn, r.V] W fun e w' => e = .returned (.bool true) ∧ Below W.heap.size W w' from same15_any C HC.out ur un UN.out.1 UN.out.2 pr pn r W (Pt.In.ext PR.out x) (Pt.In.ext PN.out x) hr hl (Nat.le_trans HPN8.out (by decide))))
  have SLR := Lib.hid (fun (r : Vp) (W : World) (x : Ex w3b W) (hr : r.In W W.heap.size) (hl : r.l.length ≤ 9223372036854775807) => (show Calls Try.prog 38 #[digV C, LV ul pl, LV ur pr, r.V] W fun e w' => e = .returned (.bool true) ∧ Below W.heap.size W w' from same15_any C HC.out ul ur UR.out.1 UR.out.2 pl pr r W (Pt.In.ext PL.out x) (Pt.In.ext PR.out x) hr hl HPRL.out))
  have hm := HM0L.out
  have hcp := HCAP0.out
  by_cases h8 : n0 ≤ 8
  · obtain ⟨mo, hmo⟩ : ∃ mo : Vp, mo = ⟨ad0, cap0, l0⟩ := ⟨_, rfl⟩
    obtain ⟨mv, hmv⟩ : ∃ mv : Value, mv = .slice ad0 n0 cap0 := ⟨_, rfl⟩
    have HMV := Lib.hid (show mv = mo.V by rw [hmv, hmo, HN0.out]; rfl)
    have HMVS := Lib.hid hmv
    obtain ⟨Mo, hMo⟩ : ∃ Mo, Mo = mo.l := ⟨_, rfl⟩
    have HML := Lib.hid hMo.symm
    have HLM := Lib.hid (show Mo.length ≤ 8 by rw [hMo, hmo]; show l0.length ≤ 8; rw [← HN0.out]; exact h8)
    replace MI := Lib.hid (show mo.In w3b w3b.heap.size by rw [hmo]; exact MI.out)
    have JT0 := fun T => JT0.out Mo T
    have h8i : (n0 : Int) ≤ 8 := by omega
    clear hmv hmo hMo
    have JT0 := Lib.hid JT0
    go_wp2_with (first | (with_reducible refine Sm.stop_load59 ?_) | (with_reducible refine Sm.stop_store59 ?_) | (with_reducible refine stop_load45 ?_) | (with_reducible refine stop_store45 ?_))
    rw [← HMVS.out]
    have JT0 := fun T => JT0.out T
    clear hm hcp h8 h8i
    obtain ⟨T, hT⟩ : ∃ T : List (Option Value), T = [some (digV C), some (LV ul pl), some (LV un pn), some (wv), some (.bool true), some (.bool true), some (digV C), some (LV ul pl), some (LV un pn), some (wv), some (wv), none, some (.bool true), some (.bool true), some (.bool true), some (digV C), some (LV ul pl), some (LV un pn), none, some (mv), none, some (wv), none, some (.bool true), some (.bool true), some (.bool true), some (digV C), some (LV ur pr), some (LV un pn), some (wv), some (.bool true), some (.bool true), some (.bool true), some (digV C), some (LV ul pl), some (LV ur pr), some (wv), some (.bool true), some (.bool true), some (.bool true), some (digV C), some (.int .i64 who), some (digV (keyL C who)), some (digV C), some (.int .i64 who), some (digV (keyL C who)), some (.bool true), some (.bool true), some (.bool true), some (.bool true), some (.bool true), some (.bool true)] := ⟨_, rfl⟩
    refine wp_region_cl (JT w3b B1 p Mo T) (by kernel_rfl) (by kernel_rfl) (by kernel_rfl) (fitB_spec (by kernel_rfl)) (fun listed f h => JT0 T listed f h) ?_ ?_
    · intro i o ho
      have hi : i < 52 := (Array.getElem?_eq_some_iff.1 ho).1
      have hi' : i = 0 ∨ i = 1 ∨ i = 2 ∨ i = 3 ∨ i = 4 ∨ i = 5 ∨ i = 6 ∨ i = 7 ∨ i = 8 ∨ i = 9 ∨ i = 10 ∨ i = 11 ∨ i = 12 ∨ i = 13 ∨ i = 14 ∨ i = 15 ∨ i = 16 ∨ i = 17 ∨ i = 18 ∨ i = 19 ∨ i = 20 ∨ i = 21 ∨ i = 22 ∨ i = 23 ∨ i = 24 ∨ i = 25 ∨ i = 26 ∨ i = 27 ∨ i = 28 ∨ i = 29 ∨ i = 30 ∨ i = 31 ∨ i = 32 ∨ i = 33 ∨ i = 34 ∨ i = 35 ∨ i = 36 ∨ i = 37 ∨ i = 38 ∨ i = 39 ∨ i = 40 ∨ i = 41 ∨ i = 42 ∨ i = 43 ∨ i = 44 ∨ i = 45 ∨ i = 46 ∨ i = 47 ∨ i = 48 ∨ i = 49 ∨ i = 50 ∨ i = 51 := by omega
      clear hi
      rcases hi' with rfl | rfl | rfl | rfl | rfl | rfl | rfl | rfl | rfl | rfl | rfl | rfl | rfl | rfl | rfl | rfl | rfl | rfl | rfl | rfl | rfl | rfl | rfl | rfl | rfl | rfl | rfl | rfl | rfl | rfl | rfl | rfl | rfl | rfl | rfl | rfl | rfl | rfl | rfl | rfl | rfl | rfl | rfl | rfl | rfl | rfl | rfl | rfl | rfl | rfl | rfl | rfl
      all_goals (simp only [List.getElem?_toArray, List.getElem?_cons_zero, List.getElem?_cons_succ, Option.some.injEq] at ho; subst ho; intro listed f a w6 hJC hsz hls hun hdep hout hlat; obtain ⟨hJ, hC⟩ := hJC)
      · have hcl := fun e he hb => (hdep e he hb).1
        rw [if_pos (by rfl)]
        intro K hK
        have q8 := hout 8 (outB_spec (by kernel_rfl))
        exact Sm.wp_ld _ g8 C rfl q8 (DB.ext D0.out hJ.ext) (hK _ _ ⟨hJ.next (by decide) (by decide) (by decide) (by decide) (Ex.refl _) (fun x hx => by rw [hT] at hx; first | exact Option.some.inj hx | simpa using hx), hC.step rfl hcl⟩)
      · have hcl := fun e he hb => (hdep e he hb).1
        rw [if_pos (by rfl)]
        intro K hK
        have q17 := hout 17 (outB_spec (by kernel_rfl))
        exact wp_ld45 _ g17 ul pl rfl q17 (LB.ext A17.out hJ.ext) (hK _ _ ⟨hJ.next (by decide) (by decide) (by decide) (by decide) (Ex.refl _) (fun x hx => by rw [hT] at hx; first | exact Option.some.inj hx | simpa using hx), hC.step rfl hcl⟩)
      · have hcl := fun e he hb => (hdep e he hb).1
        rw [if_pos (by rfl)]
        intro K hK
        have q18 := hout 18 (outB_spec (by kernel_rfl))
        exact wp_ld45 _ g18 un pn rfl q18 (LB.ext A18.out hJ.ext) (hK _ _ ⟨hJ.next (by decide) (by decide) (by decide) (by decide) (Ex.refl _) (fun x hx => by rw [hT] at hx; first | exact Option.some.inj hx | simpa using hx), hC.step rfl hcl⟩)
      · have hcl := fun e he hb => (hdep e he hb).1
        rw [if_pos (by rfl)]
        intro K hK
        have q19 := hout 19 (outB_spec (by kernel_rfl))
        refine wp_mv _ rfl (hK _ _ ?_)
        rw [show a.eval (.tmp 19) = wv from q19]
        exact ⟨hJ.next (by decide) (by decide) (by decide) (by decide) (Ex.refl _) (fun x hx => by rw [hT] at hx; first | exact Option.some.inj hx | simpa using hx), hC.step rfl hcl⟩
      · have hcl := fun e he hb => (hdep e he hb).1
        rw [if_pos (by rfl)]
        intro K hK
        have q52 := (hdep ⟨0, .data⟩ (by simp) rfl).2 _ rfl _ rfl
        rw [show f 0 = _ from hJ.vals 0 (hdep ⟨0, .data⟩ (by simp) rfl).1 (digV C) (by rw [hT]; rfl)] at q52
        have q53 := (hdep ⟨1, .data⟩ (by simp) rfl).2 _ rfl _ rfl
        rw [show f 1 = _ from hJ.vals 1 (hdep ⟨1, .data⟩ (by simp) rfl).1 (LV ul pl) (by rw [hT]; rfl)] at q53
        have q54 := (hdep ⟨2, .data⟩ (by simp) rfl).2 _ rfl _ rfl
        rw [show f 2 = _ from hJ.vals 2 (hdep ⟨2, .data⟩ (by simp) rfl).1 (LV un pn) (by rw [hT]; rfl)] at q54
        have q55 := (hdep ⟨3, .data⟩ (by simp) rfl).2 _ rfl _ rfl
        rw [show f 3 = _ from hJ.vals 3 (hdep ⟨3, .data⟩ (by simp) rfl).1 (wv) (by rw [hT]; rfl)] at q55
        have cm := Lib.hid (SLN.out p w6 hJ.ext (hJ.pin.more hJ.lo) (by have := HLP.out; omega))
        unfold LV at cm q53 q54
        rw [show p.V = wv from HPV.out.symm] at cm
        rw [Array.getD_eq_getD_getElem?] at q52
        rw [Array.getD_eq_getD_getElem?] at q53
        rw [Array.getD_eq_getD_getElem?] at q54
        rw [Array.getD_eq_getD_getElem?] at q55
        clear hsz hdep hout hlat
        go_simp
        refine cm.out.mono ?_
        rintro e w7 ⟨rfl, xq⟩
        exact hK _ _ ⟨hJ.next (by decide) (by decide) (by decide) (by decide) xq (fun x hx => by rw [hT] at hx; first | exact Option.some.inj hx | simpa using hx), hC.step rfl hcl⟩
      · have hcl := fun e he hb => (hdep e he hb).1
        rw [if_pos (by rfl)]
        intro K hK
        have q56 := (hdep ⟨4, .data⟩ (by simp) rfl).2 _ rfl _ rfl
        rw [show f 4 = _ from hJ.vals 4 (hdep ⟨4, .data⟩ (by simp) rfl).1 (.bool true) (by rw [hT]; rfl)] at q56
        refine wp_mv _ rfl (hK _ _ ?_)
        rw [show a.eval (.tmp 56) = .bool true from q56]
        exact ⟨hJ.next (by decide) (by decide) (by decide) (by decide) (Ex.refl _) (fun x hx => by rw [hT] at hx; first | exact Option.some.inj hx | simpa using hx), hC.step rfl hcl⟩
      · have hcl := fun e he hb => (hdep e he hb).1
        have kg := (hdep ⟨5, .guard⟩ (by simp) rfl).2 _ rfl _ rfl
        rw [show f 5 = _ from hJ.vals 5 (hdep ⟨5, .guard⟩ (by simp) rfl).1 (.bool true) (by rw [hT]; rfl)] at kg
        rw [if_pos (wanted_of rfl rfl rfl kg)]
        intro K hK
        have q8 := hout 8 (outB_spec (by kernel_rfl))
        exact Sm.wp_ld _ g8 C rfl q8 (DB.ext D0.out hJ.ext) (hK _ _ ⟨hJ.next (by decide) (by decide) (by decide) (by decide) (Ex.refl _) (fun x hx => by rw [hT] at hx; first | exact Option.some.inj hx | simpa using hx), hC.step rfl hcl⟩)
      · have hcl := fun e he hb => (hdep e he hb).1
        have kg := (hdep ⟨5, .guard⟩ (by simp) rfl).2 _ rfl _ rfl
        rw [show f 5 = _ from hJ.vals 5 (hdep ⟨5, .guard⟩ (by simp) rfl).1 (.bool true) (by rw [hT]; rfl)] at kg
        rw [if_pos (wanted_of rfl rfl rfl kg)]
        intro K hK
        have q17 := hout 17 (outB_spec (by kernel_rfl))
        exact wp_ld45 _ g17 ul pl rfl q17 (LB.ext A17.out hJ.ext) (hK _ _ ⟨hJ.next (by decide) (by decide) (by decide) (by decide) (Ex.refl _) (fun x hx => by rw [hT] at hx; first | exact Option.some.inj hx | simpa using hx), hC.step rfl hcl⟩)
      · have hcl := fun e he hb => (hdep e he hb).1
        have kg := (hdep ⟨5, .guard⟩ (by simp) rfl).2 _ rfl _ rfl
        rw [show f 5 = _ from hJ.vals 5 (hdep ⟨5, .guard⟩ (by simp) rfl).1 (.bool true) (by rw [hT]; rfl)] at kg
        rw [if_pos (wanted_of rfl rfl rfl kg)]
        intro K hK
        have q18 := hout 18 (outB_spec (by kernel_rfl))
        exact wp_ld45 _ g18 un pn rfl q18 (LB.ext A18.out hJ.ext) (hK _ _ ⟨hJ.next (by decide) (by decide) (by decide) (by decide) (Ex.refl _) (fun x hx => by rw [hT] at hx; first | exact Option.some.inj hx | simpa using hx), hC.step rfl hcl⟩)
      · have hcl := fun e he hb => (hdep e he hb).1
        have kg := (hdep ⟨5, .guard⟩ (by simp) rfl).2 _ rfl _ rfl
        rw [show f 5 = _ from hJ.vals 5 (hdep ⟨5, .guard⟩ (by simp) rfl).1 (.bool true) (by rw [hT]; rfl)] at kg
        rw [if_pos (wanted_of rfl rfl rfl kg)]
        intro K hK
        have q19 := hout 19 (outB_spec (by kernel_rfl))
        refine wp_mv _ rfl (hK _ _ ?_)
        rw [show a.eval (.tmp 19) = wv from q19]
        exact ⟨hJ.next (by decide) (by decide) (by decide) (by decide) (Ex.refl _) (fun x hx => by rw [hT] at hx; first | exact Option.some.inj hx | simpa using hx), hC.step rfl hcl⟩
      · have hcl := fun e he hb => (hdep e he hb).1
        have kg := (hdep ⟨5, .guard⟩ (by simp) rfl).2 _ rfl _ rfl
        rw [show f 5 = _ from hJ.vals 5 (hdep ⟨5, .guard⟩ (by simp) rfl).1 (.bool true) (by rw [hT]; rfl)] at kg
        rw [if_pos (wanted_of rfl rfl rfl kg)]
        intro K hK
        have q19 := hout 19 (outB_spec (by kernel_rfl))
        refine wp_mv _ rfl (hK _ _ ?_)
        rw [show a.eval (.tmp 19) = wv from q19]
        exact ⟨hJ.next (by decide) (by decide) (by decide) (by decide) (Ex.refl _) (fun x hx => by rw [hT] at hx; first | exact Option.some.inj hx | simpa using hx), hC.step rfl hcl⟩
      · have hcl := fun e he hb => (hdep e he hb).1
        have kg := (hdep ⟨5, .guard⟩ (by simp) rfl).2 _ rfl _ rfl
        rw [show f 5 = _ from hJ.vals 5 (hdep ⟨5, .guard⟩ (by simp) rfl).1 (.bool true) (by rw [hT]; rfl)] at kg
        rw [if_pos (wanted_of rfl rfl rfl kg)]
        intro K hK
        have q61 := (hdep ⟨9, .data⟩ (by simp) rfl).2 _ rfl _ rfl
        rw [show f 9 = _ from hJ.vals 9 (hdep ⟨9, .data⟩ (by simp) rfl).1 (wv) (by rw [hT]; rfl)] at q61
        have q62 := (hdep ⟨10, .data⟩ (by simp) rfl).2 _ rfl _ rfl
        rw [show f 10 = _ from hJ.vals 10 (hdep ⟨10, .data⟩ (by simp) rfl).1 (wv) (by rw [hT]; rfl)] at q62
        have c14 : listed.getD 14 false = true → listed.getD 11 false = true ∧ listed.getD 12 false = true := fun h => by
          have h12 := hC 14 _ rfl h ⟨12, .chain⟩ (by simp) rfl
          exact ⟨hC 12 _ rfl h12 ⟨11, .data⟩ (by simp) rfl, h12⟩
        have n18 : listed.getD 18 false = false := by
          cases e : listed.getD 18 false with
          | false => rfl
          | true => have := (c14 (hC 18 _ rfl e ⟨14, .guard⟩ (by simp) rfl)).1; rw [show listed.getD 11 false = false from hun] at this; cases this
        have n20 : listed.getD 20 false = false := by
          cases e : listed.getD 20 false with
          | false => rfl
          | true => have := (c14 (hC 20 _ rfl e ⟨14, .guard⟩ (by simp) rfl)).1; rw [show listed.getD 11 false = false from hun] at this; cases this
        have n22 : listed.getD 22 false = false := by
          cases e : listed.getD 22 false with
          | false => rfl
          | true => have := (c14 (hC 22 _ rfl e ⟨14, .guard⟩ (by simp) rfl)).1; rw [show listed.getD 11 false = false from hun] at this; cases this
        have ho := hJ.s0 hun
        refine wp_vapp _ _ rfl w3b.heap.size p p (show a.eval (.tmp 61) = p.V by rw [← HPV.out]; exact q61) (show a.eval (.tmp 62) = p.V by rw [← HPV.out]; exact q62) ho (hJ.pin.more hJ.lo) (hJ.pin.more hJ.lo) hJ.ext.size (by have := HLP.out; omega) (fun v' w' r1 r2 r3 => hK _ _ ?_)
        exact ⟨hJ.at11 HB1.out (by rw [hls]; decide) n18 n20 n22 (by rw [hT]; rfl) r1 r2 r3, hC.step rfl hcl⟩
      · have hcl := fun e he hb => (hdep e he hb).1
        have kg := (hdep ⟨5, .guard⟩ (by simp) rfl).2 _ rfl _ rfl
        rw [show f 5 = _ from hJ.vals 5 (hdep ⟨5, .guard⟩ (by simp) rfl).1 (.bool true) (by rw [hT]; rfl)] at kg
        rw [if_pos (wanted_of rfl rfl rfl kg)]
        intro K hK
        have q58 := (hdep ⟨6, .data⟩ (by simp) rfl).2 _ rfl _ rfl
        rw [show f 6 = _ from hJ.vals 6 (hdep ⟨6, .data⟩ (by simp) rfl).1 (digV C) (by rw [hT]; rfl)] at q58
        have q59 := (hdep ⟨7, .data⟩ (by simp) rfl).2 _ rfl _ rfl
        rw [show f 7 = _ from hJ.vals 7 (hdep ⟨7, .data⟩ (by simp) rfl).1 (LV ul pl) (by rw [hT]; rfl)] at q59
        have q60 := (hdep ⟨8, .data⟩ (by simp) rfl).2 _ rfl _ rfl
        rw [show f 8 = _ from hJ.vals 8 (hdep ⟨8, .data⟩ (by simp) rfl).1 (LV un pn) (by rw [hT]; rfl)] at q60
        have q63 := (hdep ⟨11, .data⟩ (by simp) rfl).2 _ rfl _ rfl
        obtain ⟨r, er, rl, ri⟩ := hJ.s11 (hdep ⟨11, .data⟩ (by simp) rfl).1 hun
        rw [er] at q63
        have cm := Lib.hid (SLN.out r w6 hJ.ext ri (by rw [rl, List.length_append]; have := HLP.out; omega))
        unfold LV at cm q59 q60
        unfold Vp.V at cm q63
        clear er rl ri
        generalize r.l.length = nr at cm q63
        rw [Array.getD_eq_getD_getElem?] at q58
        rw [Array.getD_eq_getD_getElem?] at q59
        rw [Array.getD_eq_getD_getElem?] at q60
        rw [Array.getD_eq_getD_getElem?] at q63
        clear hsz hdep hout hlat
        go_simp
        refine cm.out.mono ?_
        rintro e w7 ⟨rfl, xq⟩
        exact hK _ _ ⟨hJ.next (by decide) (by decide) (by decide) (by decide) xq (fun x hx => by rw [hT] at hx; first | exact Option.some.inj hx | simpa using hx), hC.step rfl hcl⟩
      · have hcl := fun e he hb => (hdep e he hb).1
        rw [if_pos (by rfl)]
        intro K hK
        have q57 := (hdep ⟨5, .data⟩ (by simp) rfl).2 _ rfl _ rfl
        rw [show f 5 = _ from hJ.vals 5 (hdep ⟨5, .data⟩ (by simp) rfl).1 (.bool true) (by rw [hT]; rfl)] at q57
        have q64 := (hdep ⟨12, .data⟩ (by simp) rfl).2 _ rfl _ rfl
        rw [show f 12 = _ from hJ.vals 12 (hdep ⟨12, .data⟩ (by simp) rfl).1 (.bool true) (by rw [hT]; rfl)] at q64
        rw [Array.getD_eq_getD_getElem?] at q57
        rw [Array.getD_eq_getD_getElem?] at q64
        clear hsz hdep hout hlat
        go_simp
        exact hK _ _ (⟨hJ.next (by decide) (by decide) (by decide) (by decide) (Ex.refl _) (fun x hx => by rw [hT] at hx; first | exact Option.some.inj hx | simpa using hx), hC.step rfl hcl⟩)
      · have hcl := fun e he hb => (hdep e he hb).1
        rw [if_pos (by rfl)]
        intro K hK
        have q65 := (hdep ⟨13, .data⟩ (by simp) rfl).2 _ rfl _ rfl
        rw [show f 13 = _ from hJ.vals 13 (hdep ⟨13, .data⟩ (by simp) rfl).1 (.bool true) (by rw [hT]; rfl)] at q65
        refine wp_mv _ rfl (hK _ _ ?_)
        rw [show a.eval (.tmp 65) = .bool true from q65]
        exact ⟨hJ.next (by decide) (by decide) (by decide) (by decide) (Ex.refl _) (fun x hx => by rw [hT] at hx; first | exact Option.some.inj hx | simpa using hx), hC.step rfl hcl⟩
      · have hcl := fun e he hb => (hdep e he hb).1
        have kg := (hdep ⟨14, .guard⟩ (by simp) rfl).2 _ rfl _ rfl
        rw [show f 14 = _ from hJ.vals 14 (hdep ⟨14, .guard⟩ (by simp) rfl).1 (.bool true) (by rw [hT]; rfl)] at kg
        rw [if_pos (wanted_of rfl rfl rfl kg)]
        intro K hK
        have q8 := hout 8 (outB_spec (by kernel_rfl))
        exact Sm.wp_ld _ g8 C rfl q8 (DB.ext D0.out hJ.ext) (hK _ _ ⟨hJ.next (by decide) (by decide) (by decide) (by decide) (Ex.refl _) (fun x hx => by rw [hT] at hx; first | exact Option.some.inj hx | simpa using hx), hC.step rfl hcl⟩)
      · have hcl := fun e he hb => (hdep e he hb).1
        have kg := (hdep ⟨14, .guard⟩ (by simp) rfl).2 _ rfl _ rfl
        rw [show f 14 = _ from hJ.vals 14 (hdep ⟨14, .guard⟩ (by simp) rfl).1 (.bool true) (by rw [hT]; rfl)] at kg
        rw [if_pos (wanted_of rfl rfl rfl kg)]
        intro K hK
        have q17 := hout 17 (outB_spec (by kernel_rfl))
        exact wp_ld45 _ g17 ul pl rfl q17 (LB.ext A17.out hJ.ext) (hK _ _ ⟨hJ.next (by decide) (by decide) (by decide) (by decide) (Ex.refl _) (fun x hx => by rw [hT] at hx; first | exact Option.some.inj hx | simpa using hx), hC.step rfl hcl⟩)
      · have hcl := fun e he hb => (hdep e he hb).1
        have kg := (hdep ⟨14, .guard⟩ (by simp) rfl).2 _ rfl _ rfl
        rw [show f 14 = _ from hJ.vals 14 (hdep ⟨14, .guard⟩ (by simp) rfl).1 (.bool true) (by rw [hT]; rfl)] at kg
        rw [if_pos (wanted_of rfl rfl rfl kg)]
        intro K hK
        have q18 := hout 18 (outB_spec (by kernel_rfl))
        exact wp_ld45 _ g18 un pn rfl q18 (LB.ext A18.out hJ.ext) (hK _ _ ⟨hJ.next (by decide) (by decide) (by decide) (by decide) (Ex.refl _) (fun x hx => by rw [hT] at hx; first | exact Option.some.inj hx | simpa using hx), hC.step rfl hcl⟩)
      · have hcl := fun e he hb => (hdep e he hb).1
        have kg := (hdep ⟨14, .guard⟩ (by simp) rfl).2 _ rfl _ rfl
        rw [show f 14 = _ from hJ.vals 14 (hdep ⟨14, .guard⟩ (by simp) rfl).1 (.bool true) (by rw [hT]; rfl)] at kg
        rw [if_pos (wanted_of rfl rfl rfl kg)]
        intro K hK
        clear hsz hdep hout hlat
        go_simp
        exact hK _ _ ⟨hJ.at18 (by rw [hT]; rfl), hC.step rfl hcl⟩
      · have hcl := fun e he hb => (hdep e he hb).1
        have kg := (hdep ⟨14, .guard⟩ (by simp) rfl).2 _ rfl _ rfl
        rw [show f 14 = _ from hJ.vals 14 (hdep ⟨14, .guard⟩ (by simp) rfl).1 (.bool true) (by rw [hT]; rfl)] at kg
        rw [if_pos (wanted_of rfl rfl rfl kg)]
        intro K hK
        have q7 := hout 7 (outB_spec (by kernel_rfl))
        refine wp_mv _ rfl (hK _ _ ?_)
        rw [show a.eval (.tmp 7) = mv from q7]
        exact ⟨hJ.next (by decide) (by decide) (by decide) (by decide) (Ex.refl _) (fun x hx => by rw [hT] at hx; first | exact Option.some.inj hx | simpa using hx), hC.step rfl hcl⟩
      · have hcl := fun e he hb => (hdep e he hb).1
        have kg := (hdep ⟨14, .guard⟩ (by simp) rfl).2 _ rfl _ rfl
        rw [show f 14 = _ from hJ.vals 14 (hdep ⟨14, .guard⟩ (by simp) rfl).1 (.bool true) (by rw [hT]; rfl)] at kg
        rw [if_pos (wanted_of rfl rfl rfl kg)]
        intro K hK
        have q70 := (hdep ⟨18, .data⟩ (by simp) rfl).2 _ rfl _ rfl
        have q71 := (hdep ⟨19, .data⟩ (by simp) rfl).2 _ rfl _ rfl
        rw [show f 19 = _ from hJ.vals 19 (hdep ⟨19, .data⟩ (by simp) rfl).1 (mv) (by rw [hT]; rfl)] at q71
        have c14 : listed.getD 14 false = true → listed.getD 11 false = true ∧ listed.getD 12 false = true := fun h => by
          have h12 := hC 14 _ rfl h ⟨12, .chain⟩ (by simp) rfl
          exact ⟨hC 12 _ rfl h12 ⟨11, .data⟩ (by simp) rfl, h12⟩
        obtain ⟨c11, c12⟩ := c14 (hdep ⟨14, .guard⟩ (by simp) rfl).1
        have n22 : listed.getD 22 false = false := by
          cases e : listed.getD 22 false with
          | false => rfl
          | true => have := hC 22 _ rfl e ⟨20, .data⟩ (by simp) rfl; rw [show listed.getD 20 false = false from hun] at this; cases this
        have ho := hJ.s18 (hdep ⟨18, .data⟩ (by simp) rfl).1 hun
        obtain ⟨z, ez, zl, zi⟩ := vown_vp ho
        rw [ez] at q70
        rw [ez, ← zl] at ho
        refine wp_vapp _ _ rfl B1 z mo (show a.eval (.tmp 70) = z.V from q70) (show a.eval (.tmp 71) = mo.V by rw [← HMV.out]; exact q71) ho zi (Vp.In.ext MI.out hJ.ext) hJ.lo (by rw [zl]; have := HLM.out; rw [← HML.out] at this; simp; omega) (fun v' w' r1 r2 r3 => hK _ _ ?_)
        rw [zl, List.nil_append, HML.out] at r1
        exact ⟨hJ.at20 HB1.out (by rw [hls]; decide) c11 c12 n22 (by rw [hT]; rfl) r1 r2, hC.step rfl hcl⟩
      · have hcl := fun e he hb => (hdep e he hb).1
        have kg := (hdep ⟨14, .guard⟩ (by simp) rfl).2 _ rfl _ rfl
        rw [show f 14 = _ from hJ.vals 14 (hdep ⟨14, .guard⟩ (by simp) rfl).1 (.bool true) (by rw [hT]; rfl)] at kg
        rw [if_pos (wanted_of rfl rfl rfl kg)]
        intro K hK
        have q19 := hout 19 (outB_spec (by kernel_rfl))
        refine wp_mv _ rfl (hK _ _ ?_)
        rw [show a.eval (.tmp 19) = wv from q19]
        exact ⟨hJ.next (by decide) (by decide) (by decide) (by decide) (Ex.refl _) (fun x hx => by rw [hT] at hx; first | exact Option.some.inj hx | simpa using hx), hC.step rfl hcl⟩
      · have hcl := fun e he hb => (hdep e he hb).1
        have kg := (hdep ⟨14, .guard⟩ (by simp) rfl).2 _ rfl _ rfl
        rw [show f 14 = _ from hJ.vals 14 (hdep ⟨14, .guard⟩ (by simp) rfl).1 (.bool true) (by rw [hT]; rfl)] at kg
        rw [if_pos (wanted_of rfl rfl rfl kg)]
        intro K hK
        have q72 := (hdep ⟨20, .data⟩ (by simp) rfl).2 _ rfl _ rfl
        have q73 := (hdep ⟨21, .data⟩ (by simp) rfl).2 _ rfl _ rfl
        rw [show f 21 = _ from hJ.vals 21 (hdep ⟨21, .data⟩ (by simp) rfl).1 (wv) (by rw [hT]; rfl)] at q73
        have c14 : listed.getD 14 false = true → listed.getD 11 false = true ∧ listed.getD 12 false = true := fun h => by
          have h12 := hC 14 _ rfl h ⟨12, .chain⟩ (by simp) rfl
          exact ⟨hC 12 _ rfl h12 ⟨11, .data⟩ (by simp) rfl, h12⟩
        obtain ⟨c11, c12⟩ := c14 (hdep ⟨14, .guard⟩ (by simp) rfl).1
        have l20 := (hdep ⟨20, .data⟩ (by simp) rfl).1
        have ho := hJ.s20 l20 hun
        obtain ⟨z, ez, zl, zi⟩ := vown_vp ho
        rw [ez] at q72
        rw [ez, ← zl] at ho
        refine wp_vapp _ _ rfl B1 z p (show a.eval (.tmp 72) = z.V from q72) (show a.eval (.tmp 73) = p.V by rw [← HPV.out]; exact q73) ho zi (hJ.pin.more hJ.lo) hJ.lo (by rw [zl]; have := HLM.out; have := HLP.out; omega) (fun v' w' r1 r2 r3 => hK _ _ ?_)
        rw [zl] at r1
        exact ⟨hJ.at22 HB1.out (by rw [hls]; decide) c11 c12 l20 (by rw [hT]; rfl) r1 r2, hC.step rfl hcl⟩
      · have hcl := fun e he hb => (hdep e he hb).1
        have kg := (hdep ⟨14, .guard⟩ (by simp) rfl).2 _ rfl _ rfl
        rw [show f 14 = _ from hJ.vals 14 (hdep ⟨14, .guard⟩ (by simp) rfl).1 (.bool true) (by rw [hT]; rfl)] at kg
        rw [if_pos (wanted_of rfl rfl rfl kg)]
        intro K hK
        have q67 := (hdep ⟨15, .data⟩ (by simp) rfl).2 _ rfl _ rfl
        rw [show f 15 = _ from hJ.vals 15 (hdep ⟨15, .data⟩ (by simp) rfl).1 (digV C) (by rw [hT]; rfl)] at q67
        have q68 := (hdep ⟨16, .data⟩ (by simp) rfl).2 _ rfl _ rfl
        rw [show f 16 = _ from hJ.vals 16 (hdep ⟨16, .data⟩ (by simp) rfl).1 (LV ul pl) (by rw [hT]; rfl)] at q68
        have q69 := (hdep ⟨17, .data⟩ (by simp) rfl).2 _ rfl _ rfl
        rw [show f 17 = _ from hJ.vals 17 (hdep ⟨17, .data⟩ (by simp) rfl).1 (LV un pn) (by rw [hT]; rfl)] at q69
        have q74 := (hdep ⟨22, .data⟩ (by simp) rfl).2 _ rfl _ rfl
        obtain ⟨r, er, rl, ri⟩ := hJ.s22 (hdep ⟨22, .data⟩ (by simp) rfl).1 hun
        rw [er] at q74
        have cm := Lib.hid (SLN.out r w6 hJ.ext ri (by rw [rl, List.length_append]; have := HLP.out; have := HLM.out; omega))
        unfold LV at cm q68 q69
        unfold Vp.V at cm q74
        clear er rl ri
        generalize r.l.length = nr at cm q74
        rw [Array.getD_eq_getD_getElem?] at q67
        rw [Array.getD_eq_getD_getElem?] at q68
        rw [Array.getD_eq_getD_getElem?] at q69
        rw [Array.getD_eq_getD_getElem?] at q74
        clear hsz hdep hout hlat
        go_simp
        refine cm.out.mono ?_
        rintro e w7 ⟨rfl, xq⟩
        exact hK _ _ ⟨hJ.next (by decide) (by decide) (by decide) (by decide) xq (fun x hx => by rw [hT] at hx; first | exact Option.some.inj hx | simpa using hx), hC.step rfl hcl⟩
      · have hcl := fun e he hb => (hdep e he hb).1
        rw [if_pos (by rfl)]
        intro K hK
        have q66 := (hdep ⟨14, .data⟩ (by simp) rfl).2 _ rfl _ rfl
        rw [show f 14 = _ from hJ.vals 14 (hdep ⟨14, .data⟩ (by simp) rfl).1 (.bool true) (by rw [hT]; rfl)] at q66
        have q75 := (hdep ⟨23, .data⟩ (by simp) rfl).2 _ rfl _ rfl
        rw [show f 23 = _ from hJ.vals 23 (hdep ⟨23, .data⟩ (by simp) rfl).1 (.bool true) (by rw [hT]; rfl)] at q75
        rw [Array.getD_eq_getD_getElem?] at q66
        rw [Array.getD_eq_getD_getElem?] at q75
        clear hsz hdep hout hlat
        go_simp
        exact hK _ _ (⟨hJ.next (by decide) (by decide) (by decide) (by decide) (Ex.refl _) (fun x hx => by rw [hT] at hx; first | exact Option.some.inj hx | simpa using hx), hC.step rfl hcl⟩)
      · have hcl := fun e he hb => (hdep e he hb).1
        rw [if_pos (by rfl)]
        intro K hK
        have q76 := (hdep ⟨24, .data⟩ (by simp) rfl).2 _ rfl _ rfl
        rw [show f 24 = _ from hJ.vals 24 (hdep ⟨24, .data⟩ (by simp) rfl).1 (.bool true) (by rw [hT]; rfl)] at q76
        refine wp_mv _ rfl (hK _ _ ?_)
        rw [show a.eval (.tmp 76) = .bool true from q76]
        exact ⟨hJ.next (by decide) (by decide) (by decide) (by decide) (Ex.refl _) (fun x hx => by rw [hT] at hx; first | exact Option.some.inj hx | simpa using hx), hC.step rfl hcl⟩
      · have hcl := fun e he hb => (hdep e he hb).1
        have kg := (hdep ⟨25, .guard⟩ (by simp) rfl).2 _ rfl _ rfl
        rw [show f 25 = _ from hJ.vals 25 (hdep ⟨25, .guard⟩ (by simp) rfl).1 (.bool true) (by rw [hT]; rfl)] at kg
        rw [if_pos (wanted_of rfl rfl rfl kg)]
        intro K hK
        have q8 := hout 8 (outB_spec (by kernel_rfl))
        exact Sm.wp_ld _ g8 C rfl q8 (DB.ext D0.out hJ.ext) (hK _ _ ⟨hJ.next (by decide) (by decide) (by decide) (by decide) (Ex.refl _) (fun x hx => by rw [hT] at hx; first | exact Option.some.inj hx | simpa using hx), hC.step rfl hcl⟩)
      · have hcl := fun e he hb => (hdep e he hb).1
        have kg := (hdep ⟨25, .guard⟩ (by simp) rfl).2 _ rfl _ rfl
        rw [show f 25 = _ from hJ.vals 25 (hdep ⟨25, .guard⟩ (by simp) rfl).1 (.bool true) (by rw [hT]; rfl)] at kg
        rw [if_pos (wanted_of rfl rfl rfl kg)]
        intro K hK
        have q14 := hout 14 (outB_spec (by kernel_rfl))
        exact wp_ld45 _ g14 ur pr rfl q14 (LB.ext A14.out hJ.ext) (hK _ _ ⟨hJ.next (by decide) (by decide) (by decide) (by decide) (Ex.refl _) (fun x hx => by rw [hT] at hx; first | exact Option.some.inj hx | simpa using hx), hC.step rfl hcl⟩)
      · have hcl := fun e he hb => (hdep e he hb).1
        have kg := (hdep ⟨25, .guard⟩ (by simp) rfl).2 _ rfl _ rfl
        rw [show f 25 = _ from hJ.vals 25 (hdep ⟨25, .guard⟩ (by simp) rfl).1 (.bool true) (by rw [hT]; rfl)] at kg
        rw [if_pos (wanted_of rfl rfl rfl kg)]
        intro K hK
        have q18 := hout 18 (outB_spec (by kernel_rfl))
        exact wp_ld45 _ g18 un pn rfl q18 (LB.ext A18.out hJ.ext) (hK _ _ ⟨hJ.next (by decide) (by decide) (by decide) (by decide) (Ex.refl _) (fun x hx => by rw [hT] at hx; first | exact Option.some.inj hx | simpa using hx), hC.step rfl hcl⟩)
      · have hcl := fun e he hb => (hdep e he hb).1
        have kg := (hdep ⟨25, .guard⟩ (by simp) rfl).2 _ rfl _ rfl
        rw [show f 25 = _ from hJ.vals 25 (hdep ⟨25, .guard⟩ (by simp) rfl).1 (.bool true) (by rw [hT]; rfl)] at kg
        rw [if_pos (wanted_of rfl rfl rfl kg)]
        intro K hK
        have q19 := hout 19 (outB_spec (by kernel_rfl))
        refine wp_mv _ rfl (hK _ _ ?_)
        rw [show a.eval (.tmp 19) = wv from q19]
        exact ⟨hJ.next (by decide) (by decide) (by decide) (by decide) (Ex.refl _) (fun x hx => by rw [hT] at hx; first | exact Option.some.inj hx | simpa using hx), hC.step rfl hcl⟩
      · have hcl := fun e he hb => (hdep e he hb).1
        have kg := (hdep ⟨25, .guard⟩ (by simp) rfl).2 _ rfl _ rfl
        rw [show f 25 = _ from hJ.vals 25 (hdep ⟨25, .guard⟩ (by simp) rfl).1 (.bool true) (by rw [hT]; rfl)] at kg
        rw [if_pos (wanted_of rfl rfl rfl kg)]
        intro K hK
        have q78 := (hdep ⟨26, .data⟩ (by simp) rfl).2 _ rfl _ rfl
        rw [show f 26 = _ from hJ.vals 26 (hdep ⟨26, .data⟩ (by simp) rfl).1 (digV C) (by rw [hT]; rfl)] at q78
        have q79 := (hdep ⟨27, .data⟩ (by simp) rfl).2 _ rfl _ rfl
        rw [show f 27 = _ from hJ.vals 27 (hdep ⟨27, .data⟩ (by simp) rfl).1 (LV ur pr) (by rw [hT]; rfl)] at q79
        have q80 := (hdep ⟨28, .data⟩ (by simp) rfl).2 _ rfl _ rfl
        rw [show f 28 = _ from hJ.vals 28 (hdep ⟨28, .data⟩ (by simp) rfl).1 (LV un pn) (by rw [hT]; rfl)] at q80
        have q81 := (hdep ⟨29, .data⟩ (by simp) rfl).2 _ rfl _ rfl
        rw [show f 29 = _ from hJ.vals 29 (hdep ⟨29, .data⟩ (by simp) rfl).1 (wv) (by rw [hT]; rfl)] at q81
        have cm := Lib.hid (SRN.out p w6 hJ.ext (hJ.pin.more hJ.lo) (by have := HLP.out; omega))
        unfold LV at cm q79 q80
        rw [show p.V = wv from HPV.out.symm] at cm
        rw [Array.getD_eq_getD_getElem?] at q78
        rw [Array.getD_eq_getD_getElem?] at q79
        rw [Array.getD_eq_getD_getElem?] at q80
        rw [Array.getD_eq_getD_getElem?] at q81
        clear hsz hdep hout hlat
        go_simp
        refine cm.out.mono ?_
        rintro e w7 ⟨rfl, xq⟩
        exact hK _ _ ⟨hJ.next (by decide) (by decide) (by decide) (by decide) xq (fun x hx => by rw [hT] at hx; first | exact Option.some.inj hx | simpa using hx), hC.step rfl hcl⟩
      · have hcl := fun e he hb => (hdep e he hb).1
        rw [if_pos (by rfl)]
        intro K hK
        have q77 := (hdep ⟨25, .data⟩ (by simp) rfl).2 _ rfl _ rfl
        rw [show f 25 = _ from hJ.vals 25 (hdep ⟨25, .data⟩ (by simp) rfl).1 (.bool true) (by rw [hT]; rfl)] at q77
        have q82 := (hdep ⟨30, .data⟩ (by simp) rfl).2 _ rfl _ rfl
        rw [show f 30 = _ from hJ.vals 30 (hdep ⟨30, .data⟩ (by simp) rfl).1 (.bool true) (by rw [hT]; rfl)] at q82
        rw [Array.getD_eq_getD_getElem?] at q77
        rw [Array.getD_eq_getD_getElem?] at q82
        clear hsz hdep hout hlat
        go_simp
        exact hK _ _ (⟨hJ.next (by decide) (by decide) (by decide) (by decide) (Ex.refl _) (fun x hx => by rw [hT] at hx; first | exact Option.some.inj hx | simpa using hx), hC.step rfl hcl⟩)
      · have hcl := fun e he hb => (hdep e he hb).1
        rw [if_pos (by rfl)]
        intro K hK
        have q83 := (hdep ⟨31, .data⟩ (by simp) rfl).2 _ rfl _ rfl
        rw [show f 31 = _ from hJ.vals 31 (hdep ⟨31, .data⟩ (by simp) rfl).1 (.bool true) (by rw [hT]; rfl)] at q83
        refine wp_mv _ rfl (hK _ _ ?_)
        rw [show a.eval (.tmp 83) = .bool true from q83]
        exact ⟨hJ.next (by decide) (by decide) (by decide) (by decide) (Ex.refl _) (fun x hx => by rw [hT] at hx; first | exact Option.some.inj hx | simpa using hx), hC.step rfl hcl⟩
      · have hcl := fun e he hb => (hdep e he hb).1
        have kg := (hdep ⟨32, .guard⟩ (by simp) rfl).2 _ rfl _ rfl
        rw [show f 32 = _ from hJ.vals 32 (hdep ⟨32, .guard⟩ (by simp) rfl).1 (.bool true) (by rw [hT]; rfl)] at kg
        rw [if_pos (wanted_of rfl rfl rfl kg)]
        intro K hK
        have q8 := hout 8 (outB_spec (by kernel_rfl))
        exact Sm.wp_ld _ g8 C rfl q8 (DB.ext D0.out hJ.ext) (hK _ _ ⟨hJ.next (by decide) (by decide) (by decide) (by decide) (Ex.refl _) (fun x hx => by rw [hT] at hx; first | exact Option.some.inj hx | simpa using hx), hC.step rfl hcl⟩)
      · have hcl := fun e he hb => (hdep e he hb).1
        have kg := (hdep ⟨32, .guard⟩ (by simp) rfl).2 _ rfl _ rfl
        rw [show f 32 = _ from hJ.vals 32 (hdep ⟨32, .guard⟩ (by simp) rfl).1 (.bool true) (by rw [hT]; rfl)] at kg
        rw [if_pos (wanted_of rfl rfl rfl kg)]
        intro K hK
        have q17 := hout 17 (outB_spec (by kernel_rfl))
        exact wp_ld45 _ g17 ul pl rfl q17 (LB.ext A17.out hJ.ext) (hK _ _ ⟨hJ.next (by decide) (by decide) (by decide) (by decide) (Ex.refl _) (fun x hx => by rw [hT] at hx; first | exact Option.some.inj hx | simpa using hx), hC.step rfl hcl⟩)
      · have hcl := fun e he hb => (hdep e he hb).1
        have kg := (hdep ⟨32, .guard⟩ (by simp) rfl).2 _ rfl _ rfl
        rw [show f 32 = _ from hJ.vals 32 (hdep ⟨32, .guard⟩ (by simp) rfl).1 (.bool true) (by rw [hT]; rfl)] at kg
        rw [if_pos (wanted_of rfl rfl rfl kg)]
        intro K hK
        have q14 := hout 14 (outB_spec (by kernel_rfl))
        exact wp_ld45 _ g14 ur pr rfl q14 (LB.ext A14.out hJ.ext) (hK _ _ ⟨hJ.next (by decide) (by decide) (by decide) (by decide) (Ex.refl _) (fun x hx => by rw [hT] at hx; first | exact Option.some.inj hx | simpa using hx), hC.step rfl hcl⟩)
      · have hcl := fun e he hb => (hdep e he hb).1
        have kg := (hdep ⟨32, .guard⟩ (by simp) rfl).2 _ rfl _ rfl
        rw [show f 32 = _ from hJ.vals 32 (hdep ⟨32, .guard⟩ (by simp) rfl).1 (.bool true) (by rw [hT]; rfl)] at kg
        rw [if_pos (wanted_of rfl rfl rfl kg)]
        intro K hK
        have q19 := hout 19 (outB_spec (by kernel_rfl))
        refine wp_mv _ rfl (hK _ _ ?_)
        rw [show a.eval (.tmp 19) = wv from q19]
        exact ⟨hJ.next (by decide) (by decide) (by decide) (by decide) (Ex.refl _) (fun x hx => by rw [hT] at hx; first | exact Option.some.inj hx | simpa using hx), hC.step rfl hcl⟩
      · have hcl := fun e he hb => (hdep e he hb).1
        have kg := (hdep ⟨32, .guard⟩ (by simp) rfl).2 _ rfl _ rfl
        rw [show f 32 = _ from hJ.vals 32 (hdep ⟨32, .guard⟩ (by simp) rfl).1 (.bool true) (by rw [hT]; rfl)] at kg
        rw [if_pos (wanted_of rfl rfl rfl kg)]
        intro K hK
        have q85 := (hdep ⟨33, .data⟩ (by simp) rfl).2 _ rfl _ rfl
        rw [show f 33 = _ from hJ.vals 33 (hdep ⟨33, .data⟩ (by simp) rfl).1 (digV C) (by rw [hT]; rfl)] at q85
        have q86 := (hdep ⟨34, .data⟩ (by simp) rfl).2 _ rfl _ rfl
        rw [show f 34 = _ from hJ.vals 34 (hdep ⟨34, .data⟩ (by simp) rfl).1 (LV ul pl) (by rw [hT]; rfl)] at q86
        have q87 := (hdep ⟨35, .data⟩ (by simp) rfl).2 _ rfl _ rfl
        rw [show f 35 = _ from hJ.vals 35 (hdep ⟨35, .data⟩ (by simp) rfl).1 (LV ur pr) (by rw [hT]; rfl)] at q87
        have q88 := (hdep ⟨36, .data⟩ (by simp) rfl).2 _ rfl _ rfl
        rw [show f 36 = _ from hJ.vals 36 (hdep ⟨36, .data⟩ (by simp) rfl).1 (wv) (by rw [hT]; rfl)] at q88
        have cm := Lib.hid (SLR.out p w6 hJ.ext (hJ.pin.more hJ.lo) (by have := HLP.out; omega))
        unfold LV at cm q86 q87
        rw [show p.V = wv from HPV.out.symm] at cm
        rw [Array.getD_eq_getD_getElem?] at q85
        rw [Array.getD_eq_getD_getElem?] at q86
        rw [Array.getD_eq_getD_getElem?] at q87
        rw [Array.getD_eq_getD_getElem?] at q88
        clear hsz hdep hout hlat
        go_simp
        refine cm.out.mono ?_
        rintro e w7 ⟨rfl, xq⟩
        exact hK _ _ ⟨hJ.next (by decide) (by decide) (by decide) (by decide) xq (fun x hx => by rw [hT] at hx; first | exact Option.some.inj hx | simpa using hx), hC.step rfl hcl⟩
      · have hcl := fun e he hb => (hdep e he hb).1
        rw [if_pos (by rfl)]
        intro K hK
        have q84 := (hdep ⟨32, .data⟩ (by simp) rfl).2 _ rfl _ rfl
        rw [show f 32 = _ from hJ.vals 32 (hdep ⟨32, .data⟩ (by simp) rfl).1 (.bool true) (by rw [hT]; rfl)] at q84
        have q89 := (hdep ⟨37, .data⟩ (by simp) rfl).2 _ rfl _ rfl
        rw [show f 37 = _ from hJ.vals 37 (hdep ⟨37, .data⟩ (by simp) rfl).1 (.bool true) (by rw [hT]; rfl)] at q89
        rw [Array.getD_eq_getD_getElem?] at q84
        rw [Array.getD_eq_getD_getElem?] at q89
        clear hsz hdep hout hlat
        go_simp
        exact hK _ _ (⟨hJ.next (by decide) (by decide) (by decide) (by decide) (Ex.refl _) (fun x hx => by rw [hT] at hx; first | exact Option.some.inj hx | simpa using hx), hC.step rfl hcl⟩)
      · have hcl := fun e he hb => (hdep e he hb).1
        rw [if_pos (by rfl)]
        intro K hK
        have q90 := (hdep ⟨38, .data⟩ (by simp) rfl).2 _ rfl _ rfl
        rw [show f 38 = _ from hJ.vals 38 (hdep ⟨38, .data⟩ (by simp) rfl).1 (.bool true) (by rw [hT]; rfl)] at q90
        refine wp_mv _ rfl (hK _ _ ?_)
        rw [show a.eval (.tmp 90) = .bool true from q90]
        exact ⟨hJ.next (by decide) (by decide) (by decide) (by decide) (Ex.refl _) (fun x hx => by rw [hT] at hx; first | exact Option.some.inj hx | simpa using hx), hC.step rfl hcl⟩
      · have hcl := fun e he hb => (hdep e he hb).1
        have kg := (hdep ⟨39, .guard⟩ (by simp) rfl).2 _ rfl _ rfl
        rw [show f 39 = _ from hJ.vals 39 (hdep ⟨39, .guard⟩ (by simp) rfl).1 (.bool true) (by rw [hT]; rfl)] at kg
        rw [if_pos (wanted_of rfl rfl rfl kg)]
        intro K hK
        have q8 := hout 8 (outB_spec (by kernel_rfl))
        exact Sm.wp_ld _ g8 C rfl q8 (DB.ext D0.out hJ.ext) (hK _ _ ⟨hJ.next (by decide) (by decide) (by decide) (by decide) (Ex.refl _) (fun x hx => by rw [hT] at hx; first | exact Option.some.inj hx | simpa using hx), hC.step rfl hcl⟩)
      · have hcl := fun e he hb => (hdep e he hb).1
        have kg := (hdep ⟨39, .guard⟩ (by simp) rfl).2 _ rfl _ rfl
        rw [show f 39 = _ from hJ.vals 39 (hdep ⟨39, .guard⟩ (by simp) rfl).1 (.bool true) (by rw [hT]; rfl)] at kg
        rw [if_pos (wanted_of rfl rfl rfl kg)]
        intro K hK
        have q3 := hout 3 (outB_spec (by kernel_rfl))
        refine wp_mv _ rfl (hK _ _ ?_)
        rw [show a.eval (.tmp 3) = .int .i64 who from q3]
        exact ⟨hJ.next (by decide) (by decide) (by decide) (by decide) (Ex.refl _) (fun x hx => by rw [hT] at hx; first | exact Option.some.inj hx | simpa using hx), hC.step rfl hcl⟩
      · have hcl := fun e he hb => (hdep e he hb).1
        have kg := (hdep ⟨39, .guard⟩ (by simp) rfl).2 _ rfl _ rfl
        rw [show f 39 = _ from hJ.vals 39 (hdep ⟨39, .guard⟩ (by simp) rfl).1 (.bool true) (by rw [hT]; rfl)] at kg
        rw [if_pos (wanted_of rfl rfl rfl kg)]
        intro K hK
        have q92 := (hdep ⟨40, .data⟩ (by simp) rfl).2 _ rfl _ rfl
        rw [show f 40 = _ from hJ.vals 40 (hdep ⟨40, .data⟩ (by simp) rfl).1 (digV C) (by rw [hT]; rfl)] at q92
        have q93 := (hdep ⟨41, .data⟩ (by simp) rfl).2 _ rfl _ rfl
        rw [show f 41 = _ from hJ.vals 41 (hdep ⟨41, .data⟩ (by simp) rfl).1 (.int .i64 who) (by rw [hT]; rfl)] at q93
        rw [Array.getD_eq_getD_getElem?] at q92
        rw [Array.getD_eq_getD_getElem?] at q93
        clear hsz hdep hout hlat
        go_simp
        refine (show Calls Try.prog 40 #[digV C, .int .i64 who] w6 fun e w' => e = .returned (digV (keyL C who)) ∧ Below w6.heap.size w6 w' from Sm.key_any C HC.out who w6).mono ?_
        rintro e w7 ⟨rfl, xq⟩
        exact hK _ _ ⟨hJ.next (by decide) (by decide) (by decide) (by decide) xq (fun x hx => by rw [hT] at hx; first | exact Option.some.inj hx | simpa using hx), hC.step rfl hcl⟩
      · have hcl := fun e he hb => (hdep e he hb).1
        have kg := (hdep ⟨39, .guard⟩ (by simp) rfl).2 _ rfl _ rfl
        rw [show f 39 = _ from hJ.vals 39 (hdep ⟨39, .guard⟩ (by simp) rfl).1 (.bool true) (by rw [hT]; rfl)] at kg
        rw [if_pos (wanted_of rfl rfl rfl kg)]
        intro K hK
        have q8 := hout 8 (outB_spec (by kernel_rfl))
        exact Sm.wp_ld _ g8 C rfl q8 (DB.ext D0.out hJ.ext) (hK _ _ ⟨hJ.next (by decide) (by decide) (by decide) (by decide) (Ex.refl _) (fun x hx => by rw [hT] at hx; first | exact Option.some.inj hx | simpa using hx), hC.step rfl hcl⟩)
      · have hcl := fun e he hb => (hdep e he hb).1
        have kg := (hdep ⟨39, .guard⟩ (by simp) rfl).2 _ rfl _ rfl
        rw [show f 39 = _ from hJ.vals 39 (hdep ⟨39, .guard⟩ (by simp) rfl).1 (.bool true) (by rw [hT]; rfl)] at kg
        rw [if_pos (wanted_of rfl rfl rfl kg)]
        intro K hK
        have q3 := hout 3 (outB_spec (by kernel_rfl))
        refine wp_mv _ rfl (hK _ _ ?_)
        rw [show a.eval (.tmp 3) = .int .i64 who from q3]
        exact ⟨hJ.next (by decide) (by decide) (by decide) (by decide) (Ex.refl _) (fun x hx => by rw [hT] at hx; first | exact Option.some.inj hx | simpa using hx), hC.step rfl hcl⟩
      · have hcl := fun e he hb => (hdep e he hb).1
        have kg := (hdep ⟨39, .guard⟩ (by simp) rfl).2 _ rfl _ rfl
        rw [show f 39 = _ from hJ.vals 39 (hdep ⟨39, .guard⟩ (by simp) rfl).1 (.bool true) (by rw [hT]; rfl)] at kg
        rw [if_pos (wanted_of rfl rfl rfl kg)]
        intro K hK
        have q95 := (hdep ⟨43, .data⟩ (by simp) rfl).2 _ rfl _ rfl
        rw [show f 43 = _ from hJ.vals 43 (hdep ⟨43, .data⟩ (by simp) rfl).1 (digV C) (by rw [hT]; rfl)] at q95
        have q96 := (hdep ⟨44, .data⟩ (by simp) rfl).2 _ rfl _ rfl
        rw [show f 44 = _ from hJ.vals 44 (hdep ⟨44, .data⟩ (by simp) rfl).1 (.int .i64 who) (by rw [hT]; rfl)] at q96
        rw [Array.getD_eq_getD_getElem?] at q95
        rw [Array.getD_eq_getD_getElem?] at q96
        clear hsz hdep hout hlat
        go_simp
        refine (show Calls Try.prog 41 #[digV C, .int .i64 who] w6 fun e w' => e = .returned (digV (keyL C who)) ∧ Below w6.heap.size w6 w' from Sm.rkey_any C HC.out who w6).mono ?_
        rintro e w7 ⟨rfl, xq⟩
        exact hK _ _ ⟨hJ.next (by decide) (by decide) (by decide) (by decide) xq (fun x hx => by rw [hT] at hx; first | exact Option.some.inj hx | simpa using hx), hC.step rfl hcl⟩
      · have hcl := fun e he hb => (hdep e he hb).1
        have kg := (hdep ⟨39, .guard⟩ (by simp) rfl).2 _ rfl _ rfl
        rw [show f 39 = _ from hJ.vals 39 (hdep ⟨39, .guard⟩ (by simp) rfl).1 (.bool true) (by rw [hT]; rfl)] at kg
        rw [if_pos (wanted_of rfl rfl rfl kg)]
        intro K hK
        have q94 := (hdep ⟨42, .data⟩ (by simp) rfl).2 _ rfl _ rfl
        rw [show f 42 = _ from hJ.vals 42 (hdep ⟨42, .data⟩ (by simp) rfl).1 (digV (keyL C who)) (by rw [hT]; rfl)] at q94
        have q97 := (hdep ⟨45, .data⟩ (by simp) rfl).2 _ rfl _ rfl
        rw [show f 45 = _ from hJ.vals 45 (hdep ⟨45, .data⟩ (by simp) rfl).1 (digV (keyL C who)) (by rw [hT]; rfl)] at q97
        refine Sm.wp_eql_dig _ _ _ rfl (keyL C who) (keyL C who) rfl rfl q94 q97 ?_
        rw [decide_eq_true rfl]
        exact hK _ _ ⟨hJ.next (by decide) (by decide) (by decide) (by decide) (Ex.refl _) (fun x hx => by rw [hT] at hx; first | exact Option.some.inj hx | simpa using hx), hC.step rfl hcl⟩
      · have hcl := fun e he hb => (hdep e he hb).1
        rw [if_pos (by rfl)]
        intro K hK
        have q91 := (hdep ⟨39, .data⟩ (by simp) rfl).2 _ rfl _ rfl
        rw [show f 39 = _ from hJ.vals 39 (hdep ⟨39, .data⟩ (by simp) rfl).1 (.bool true) (by rw [hT]; rfl)] at q91
        have q98 := (hdep ⟨46, .data⟩ (by simp) rfl).2 _ rfl _ rfl
        rw [show f 46 = _ from hJ.vals 46 (hdep ⟨46, .data⟩ (by simp) rfl).1 (.bool true) (by rw [hT]; rfl)] at q98
        rw [Array.getD_eq_getD_getElem?] at q91
        rw [Array.getD_eq_getD_getElem?] at q98
        clear hsz hdep hout hlat
        go_simp
        exact hK _ _ (⟨hJ.next (by decide) (by decide) (by decide) (by decide) (Ex.refl _) (fun x hx => by rw [hT] at hx; first | exact Option.some.inj hx | simpa using hx), hC.step rfl hcl⟩)
      · have hcl := fun e he hb => (hdep e he hb).1
        rw [if_pos (by rfl)]
        intro K hK
        have q99 := (hdep ⟨47, .data⟩ (by simp) rfl).2 _ rfl _ rfl
        rw [show f 47 = _ from hJ.vals 47 (hdep ⟨47, .data⟩ (by simp) rfl).1 (.bool true) (by rw [hT]; rfl)] at q99
        refine wp_mv _ rfl (hK _ _ ?_)
        rw [show a.eval (.tmp 99) = .bool true from q99]
        exact ⟨hJ.next (by decide) (by decide) (by decide) (by decide) (Ex.refl _) (fun x hx => by rw [hT] at hx; first | exact Option.some.inj hx | simpa using hx), hC.step rfl hcl⟩
      · have hcl := fun e he hb => (hdep e he hb).1
        have kg := (hdep ⟨48, .guard⟩ (by simp) rfl).2 _ rfl _ rfl
        rw [show f 48 = _ from hJ.vals 48 (hdep ⟨48, .guard⟩ (by simp) rfl).1 (.bool true) (by rw [hT]; rfl)] at kg
        rw [if_pos (wanted_of rfl rfl rfl kg)]
        intro K hK
        clear hsz hdep hout hlat
        go_simp
        refine (KN.out w6).mono ?_
        rintro e w7 ⟨rfl, xq⟩
        exact hK _ _ ⟨hJ.next (by decide) (by decide) (by decide) (by decide) xq (fun x hx => by rw [hT] at hx; first | exact Option.some.inj hx | simpa using hx), hC.step rfl hcl⟩
      · have hcl := fun e he hb => (hdep e he hb).1
        rw [if_pos (by rfl)]
        intro K hK
        have q100 := (hdep ⟨48, .data⟩ (by simp) rfl).2 _ rfl _ rfl
        rw [show f 48 = _ from hJ.vals 48 (hdep ⟨48, .data⟩ (by simp) rfl).1 (.bool true) (by rw [hT]; rfl)] at q100
        have q101 := (hdep ⟨49, .data⟩ (by simp) rfl).2 _ rfl _ rfl
        rw [show f 49 = _ from hJ.vals 49 (hdep ⟨49, .data⟩ (by simp) rfl).1 (.bool true) (by rw [hT]; rfl)] at q101
        rw [Array.getD_eq_getD_getElem?] at q100
        rw [Array.getD_eq_getD_getElem?] at q101
        clear hsz hdep hout hlat
        go_simp
        exact hK _ _ (⟨hJ.next (by decide) (by decide) (by decide) (by decide) (Ex.refl _) (fun x hx => by rw [hT] at hx; first | exact Option.some.inj hx | simpa using hx), hC.step rfl hcl⟩)
      · have hcl := fun e he hb => (hdep e he hb).1
        rw [if_pos (by rfl)]
        intro K hK
        have q102 := (hdep ⟨50, .data⟩ (by simp) rfl).2 _ rfl _ rfl
        rw [show f 50 = _ from hJ.vals 50 (hdep ⟨50, .data⟩ (by simp) rfl).1 (.bool true) (by rw [hT]; rfl)] at q102
        rw [Array.getD_eq_getD_getElem?] at q102
        clear hsz hdep hout hlat
        go_simp
        exact hK _ _ (⟨hJ.next (by decide) (by decide) (by decide) (by decide) (Ex.refl _) (fun x hx => by rw [hT] at hx; first | exact Option.some.inj hx | simpa using hx), hC.step rfl hcl⟩)
    · intro listed f w6 hall hJC
      obtain ⟨hJ, _⟩ := hJC
      have f0 : f 0 = digV C := hJ.vals 0 (hall 0 (by simp)) _ (by rw [hT]; rfl)
      have f1 : f 1 = LV ul pl := hJ.vals 1 (hall 1 (by simp)) _ (by rw [hT]; rfl)
      have f2 : f 2 = LV un pn := hJ.vals 2 (hall 2 (by simp)) _ (by rw [hT]; rfl)
      have f3 : f 3 = wv := hJ.vals 3 (hall 3 (by simp)) _ (by rw [hT]; rfl)
      have f4 : f 4 = .bool true := hJ.vals 4 (hall 4 (by simp)) _ (by rw [hT]; rfl)
      have f5 : f 5 = .bool true := hJ.vals 5 (hall 5 (by simp)) _ (by rw [hT]; rfl)
      have f6 : f 6 = digV C := hJ.vals 6 (hall 6 (by simp)) _ (by rw [hT]; rfl)
      have f7 : f 7 = LV ul pl := hJ.vals 7 (hall 7 (by simp)) _ (by rw [hT]; rfl)
      have f8 : f 8 = LV un pn := hJ.vals 8 (hall 8 (by simp)) _ (by rw [hT]; rfl)
      have f9 : f 9 = wv := hJ.vals 9 (hall 9 (by simp)) _ (by rw [hT]; rfl)
      have f10 : f 10 = wv := hJ.vals 10 (hall 10 (by simp)) _ (by rw [hT]; rfl)
      have f12 : f 12 = .bool true := hJ.vals 12 (hall 12 (by simp)) _ (by rw [hT]; rfl)
      have f13 : f 13 = .bool true := hJ.vals 13 (hall 13 (by simp)) _ (by rw [hT]; rfl)
      have f14 : f 14 = .bool true := hJ.vals 14 (hall 14 (by simp)) _ (by rw [hT]; rfl)
      have f15 : f 15 = digV C := hJ.vals 15 (hall 15 (by simp)) _ (by rw [hT]; rfl)
      have f16 : f 16 = LV ul pl := hJ.vals 16 (hall 16 (by simp)) _ (by rw [hT]; rfl)
      have f17 : f 17 = LV un pn := hJ.vals 17 (hall 17 (by simp)) _ (by rw [hT]; rfl)
      have f19 : f 19 = mv := hJ.vals 19 (hall 19 (by simp)) _ (by rw [hT]; rfl)
      have f21 : f 21 = wv := hJ.vals 21 (hall 21 (by simp)) _ (by rw [hT]; rfl)
      have f23 : f 23 = .bool true := hJ.vals 23 (hall 23 (by simp)) _ (by rw [hT]; rfl)
      have f24 : f 24 = .bool true := hJ.vals 24 (hall 24 (by simp)) _ (by rw [hT]; rfl)
      have f25 : f 25 = .bool true := hJ.vals 25 (hall 25 (by simp)) _ (by rw [hT]; rfl)
      have f26 : f 26 = digV C := hJ.vals 26 (hall 26 (by simp)) _ (by rw [hT]; rfl)
      have f27 : f 27 = LV ur pr := hJ.vals 27 (hall 27 (by simp)) _ (by rw [hT]; rfl)
      have f28 : f 28 = LV un pn := hJ.vals 28 (hall 28 (by simp)) _ (by rw [hT]; rfl)
      have f29 : f 29 = wv := hJ.vals 29 (hall 29 (by simp)) _ (by rw [hT]; rfl)
      have f30 : f 30 = .bool true := hJ.vals 30 (hall 30 (by simp)) _ (by rw [hT]; rfl)
      have f31 : f 31 = .bool true := hJ.vals 31 (hall 31 (by simp)) _ (by rw [hT]; rfl)
      have f32 : f 32 = .bool true := hJ.vals 32 (hall 32 (by simp)) _ (by rw [hT]; rfl)
      have f33 : f 33 = digV C := hJ.vals 33 (hall 33 (by simp)) _ (by rw [hT]; rfl)
      have f34 : f 34 = LV ul pl := hJ.vals 34 (hall 34 (by simp)) _ (by rw [hT]; rfl)
      have f35 : f 35 = LV ur pr := hJ.vals 35 (hall 35 (by simp)) _ (by rw [hT]; rfl)
      have f36 : f 36 = wv := hJ.vals 36 (hall 36 (by simp)) _ (by rw [hT]; rfl)
      have f37 : f 37 = .bool true := hJ.vals 37 (hall 37 (by simp)) _ (by rw [hT]; rfl)
      have f38 : f 38 = .bool true := hJ.vals 38 (hall 38 (by simp)) _ (by rw [hT]; rfl)
      have f39 : f 39 = .bool true := hJ.vals 39 (hall 39 (by simp)) _ (by rw [hT]; rfl)
      have f40 : f 40 = digV C := hJ.vals 40 (hall 40 (by simp)) _ (by rw [hT]; rfl)
      have f41 : f 41 = .int .i64 who := hJ.vals 41 (hall 41 (by simp)) _ (by rw [hT]; rfl)
      have f42 : f 42 = digV (keyL C who) := hJ.vals 42 (hall 42 (by simp)) _ (by rw [hT]; rfl)
      have f43 : f 43 = digV C := hJ.vals 43 (hall 43 (by simp)) _ (by rw [hT]; rfl)
      have f44 : f 44 = .int .i64 who := hJ.vals 44 (hall 44 (by simp)) _ (by rw [hT]; rfl)
      have f45 : f 45 = digV (keyL C who) := hJ.vals 45 (hall 45 (by simp)) _ (by rw [hT]; rfl)
      have f46 : f 46 = .bool true := hJ.vals 46 (hall 46 (by simp)) _ (by rw [hT]; rfl)
      have f47 : f 47 = .bool true := hJ.vals 47 (hall 47 (by simp)) _ (by rw [hT]; rfl)
      have f48 : f 48 = .bool true := hJ.vals 48 (hall 48 (by simp)) _ (by rw [hT]; rfl)
      have f49 : f 49 = .bool true := hJ.vals 49 (hall 49 (by simp)) _ (by rw [hT]; rfl)
      have f50 : f 50 = .bool true := hJ.vals 50 (hall 50 (by simp)) _ (by rw [hT]; rfl)
      have f51 : f 51 = .bool true := hJ.vals 51 (hall 51 (by simp)) _ (by rw [hT]; rfl)
      have xw := hJ.ext
      simp only [putAll, Act.put, List.setIfInBounds_toArray, List.set_cons_zero, List.set_cons_succ, Nat.zero_add, Nat.reduceAdd]
      rw [f0, f1, f2, f3, f4, f5, f6, f7, f8, f9, f10, f12, f13, f14, f15, f16, f17, f19, f21, f23, f24, f25, f26, f27, f28, f29, f30, f31, f32, f33, f34, f35, f36, f37, f38, f39, f40, f41, f42, f43, f44, f45, f46, f47, f48, f49, f50, f51]
      clear f0 f1 f2 f3 f4 f5 f6 f7 f8 f9 f10 f12 f13 f14 f15 f16 f17 f19 f21 f23 f24 f25 f26 f27 f28 f29 f30 f31 f32 f33 f34 f35 f36 f37 f38 f39 f40 f41 f42 f43 f44 f45 f46 f47 f48 f49 f50 f51 hJ hall hT
      generalize f 11 = y11
      generalize f 18 = y18
      generalize f 20 = y20
      generalize f 22 = y22
      replace BW := Lib.hid (Ex.trans BW.out xw)
      clear xw
      go_wp2_with (first | (with_reducible refine Sm.stop_load59 ?_) | (with_reducible refine Sm.stop_store59 ?_) | (with_reducible refine stop_load45 ?_) | (with_reducible refine stop_store45 ?_))
      go_ret
      exact ⟨rfl, BW.out⟩
  · obtain ⟨a0, hada⟩ : ∃ a0, ad0 = some a0 := by
      cases had : ad0 with
      | none => have := MI.out.nil had; simp only at this; omega
      | some a0 => exact ⟨a0, rfl⟩
    subst hada
    obtain ⟨mo, hmo⟩ : ∃ mo : Vp, mo = ⟨some a0, cap0, l0.take 8⟩ := ⟨_, rfl⟩
    obtain ⟨mv, hmv⟩ : ∃ mv : Value, mv = .slice (some a0) 8 cap0 := ⟨_, rfl⟩
    have hl8 : (l0.take 8).length = 8 := by rw [List.length_take, ← HN0.out]; omega
    have HMV := Lib.hid (show mv = mo.V by rw [hmv, hmo]; unfold Vp.V; rw [hl8])
    have HMVS := Lib.hid hmv
    obtain ⟨Mo, hMo⟩ : ∃ Mo, Mo = mo.l := ⟨_, rfl⟩
    have HML := Lib.hid hMo.symm
    have HLM := Lib.hid (show Mo.length ≤ 8 by rw [hMo, hmo]; exact Nat.le_of_eq hl8)
    replace MI := Lib.hid (show mo.In w3b w3b.heap.size by
      rw [hmo]
      refine ⟨by show (l0.take 8).length ≤ cap0; rw [hl8]; omega, (fun h => by cases h), fun i x hx => MI.out.ok i x ?_, fun _ => ?_⟩
      · simp only [List.getElem?_take] at hx
        split at hx
        · exact hx
        · cases hx
      · obtain ⟨a, o, e, hB, hc⟩ := MI.out.read (by show 0 < l0.length; rw [← HN0.out]; omega)
        refine ⟨a, o, e, hB, fun i x hx => hc i x ?_⟩
        simp only [List.getElem?_take] at hx
        split at hx
        · exact hx
        · cases hx)
    have JT0 := fun T => JT0.out Mo T
    have h8i : (8 : Int) < (n0 : Int) := by omega
    have h8c : (8 : Int) ≤ (cap0 : Int) := by omega
    have h8d : 8 ≤ cap0 := by omega
    clear hmv hmo hMo hl8
    have JT0 := Lib.hid JT0
    go_wp2_with (first | (with_reducible refine Sm.stop_load59 ?_) | (with_reducible refine Sm.stop_store59 ?_) | (with_reducible refine stop_load45 ?_) | (with_reducible refine stop_store45 ?_))
    rw [← HMVS.out]
    have JT0 := fun T => JT0.out T
    clear hm hcp h8 h8i h8c h8d
    obtain ⟨T, hT⟩ : ∃ T : List (Option Value), T = [some (digV C), some (LV ul pl), some (LV un pn), some (wv), some (.bool true), some (.bool true), some (digV C), some (LV ul pl), some (LV un pn), some (wv), some (wv), none, some (.bool true), some (.bool true), some (.bool true), some (digV C), some (LV ul pl), some (LV un pn), none, some (mv), none, some (wv), none, some (.bool true), some (.bool true), some (.bool true), some (digV C), some (LV ur pr), some (LV un pn), some (wv), some (.bool true), some (.bool true), some (.bool true), some (digV C), some (LV ul pl), some (LV ur pr), some (wv), some (.bool true), some (.bool true), some (.bool true), some (digV C), some (.int .i64 who), some (digV (keyL C who)), some (digV C), some (.int .i64 who), some (digV (keyL C who)), some (.bool true), some (.bool true), some (.bool true), some (.bool true), some (.bool true), some (.bool true)] := ⟨_, rfl⟩
    refine wp_region_cl (JT w3b B1 p Mo T) (by kernel_rfl) (by kernel_rfl) (by kernel_rfl) (fitB_spec (by kernel_rfl)) (fun listed f h => JT0 T listed f h) ?_ ?_
    · intro i o ho
      have hi : i < 52 := (Array.getElem?_eq_some_iff.1 ho).1
      have hi' : i = 0 ∨ i = 1 ∨ i = 2 ∨ i = 3 ∨ i = 4 ∨ i = 5 ∨ i = 6 ∨ i = 7 ∨ i = 8 ∨ i = 9 ∨ i = 10 ∨ i = 11 ∨ i = 12 ∨ i = 13 ∨ i = 14 ∨ i = 15 ∨ i = 16 ∨ i = 17 ∨ i = 18 ∨ i = 19 ∨ i = 20 ∨ i = 21 ∨ i = 22 ∨ i = 23 ∨ i = 24 ∨ i = 25 ∨ i = 26 ∨ i = 27 ∨ i = 28 ∨ i = 29 ∨ i = 30 ∨ i = 31 ∨ i = 32 ∨ i = 33 ∨ i = 34 ∨ i = 35 ∨ i = 36 ∨ i = 37 ∨ i = 38 ∨ i = 39 ∨ i = 40 ∨ i = 41 ∨ i = 42 ∨ i = 43 ∨ i = 44 ∨ i = 45 ∨ i = 46 ∨ i = 47 ∨ i = 48 ∨ i = 49 ∨ i = 50 ∨ i = 51 := by omega
      clear hi
      rcases hi' with rfl | rfl | rfl | rfl | rfl | rfl | rfl | rfl | rfl | rfl | rfl | rfl | rfl | rfl | rfl | rfl | rfl | rfl | rfl | rfl | rfl | rfl | rfl | rfl | rfl | rfl | rfl | rfl | rfl | rfl | rfl | rfl | rfl | rfl | rfl | rfl | rfl | rfl | rfl | rfl | rfl | rfl | rfl | rfl | rfl | rfl | rfl | rfl | rfl | rfl | rfl | rfl
      all_goals (simp only [List.getElem?_toArray, List.getElem?_cons_zero, List.getElem?_cons_succ, Option.some.injEq] at ho; subst ho; intro listed f a w6 hJC hsz hls hun hdep hout hlat; obtain ⟨hJ, hC⟩ := hJC)
      · have hcl := fun e he hb => (hdep e he hb).1
        rw [if_pos (by rfl)]
        intro K hK
        have q8 := hout 8 (outB_spec (by kernel_rfl))
        exact Sm.wp_ld _ g8 C rfl q8 (DB.ext D0.out hJ.ext) (hK _ _ ⟨hJ.next (by decide) (by decide) (by decide) (by decide) (Ex.refl _) (fun x hx => by rw [hT] at hx; first | exact Option.some.inj hx | simpa using hx), hC.step rfl hcl⟩)
      · have hcl := fun e he hb => (hdep e he hb).1
        rw [if_pos (by rfl)]
        intro K hK
        have q17 := hout 17 (outB_spec (by kernel_rfl))
        exact wp_ld45 _ g17 ul pl rfl q17 (LB.ext A17.out hJ.ext) (hK _ _ ⟨hJ.next (by decide) (by decide) (by decide) (by decide) (Ex.refl _) (fun x hx => by rw [hT] at hx; first | exact Option.some.inj hx | simpa using hx), hC.step rfl hcl⟩)
      · have hcl := fun e he hb => (hdep e he hb).1
        rw [if_pos (by rfl)]
        intro K hK
        have q18 := hout 18 (outB_spec (by kernel_rfl))
        exact wp_ld45 _ g18 un pn rfl q18 (LB.ext A18.out hJ.ext) (hK _ _ ⟨hJ.next (by decide) (by decide) (by decide) (by decide) (Ex.refl _) (fun x hx => by rw [hT] at hx; first | exact Option.some.inj hx | simpa using hx), hC.step rfl hcl⟩)
      · have hcl := fun e he hb => (hdep e he hb).1
        rw [if_pos (by rfl)]
        intro K hK
        have q19 := hout 19 (outB_spec (by kernel_rfl))
        refine wp_mv _ rfl (hK _ _ ?_)
        rw [show a.eval (.tmp 19) = wv from q19]
        exact ⟨hJ.next (by decide) (by decide) (by decide) (by decide) (Ex.refl _) (fun x hx => by rw [hT] at hx; first | exact Option.some.inj hx | simpa using hx), hC.step rfl hcl⟩
      · have hcl := fun e he hb => (hdep e he hb).1
        rw [if_pos (by rfl)]
        intro K hK
        have q52 := (hdep ⟨0, .data⟩ (by simp) rfl).2 _ rfl _ rfl
        rw [show f 0 = _ from hJ.vals 0 (hdep ⟨0, .data⟩ (by simp) rfl).1 (digV C) (by rw [hT]; rfl)] at q52
        have q53 := (hdep ⟨1, .data⟩ (by simp) rfl).2 _ rfl _ rfl
        rw [show f 1 = _ from hJ.vals 1 (hdep ⟨1, .data⟩ (by simp) rfl).1 (LV ul pl) (by rw [hT]; rfl)] at q53
        have q54 := (hdep ⟨2, .data⟩ (by simp) rfl).2 _ rfl _ rfl
        rw [show f 2 = _ from hJ.vals 2 (hdep ⟨2, .data⟩ (by simp) rfl).1 (LV un pn) (by rw [hT]; rfl)] at q54
        have q55 := (hdep ⟨3, .data⟩ (by simp) rfl).2 _ rfl _ rfl
        rw [show f 3 = _ from hJ.vals 3 (hdep ⟨3, .data⟩ (by simp) rfl).1 (wv) (by rw [hT]; rfl)] at q55
        have cm := Lib.hid (SLN.out p w6 hJ.ext (hJ.pin.more hJ.lo) (by have := HLP.out; omega))
        unfold LV at cm q53 q54
        rw [show p.V = wv from HPV.out.symm] at cm
        rw [Array.getD_eq_getD_getElem?] at q52
        rw [Array.getD_eq_getD_getElem?] at q53
        rw [Array.getD_eq_getD_getElem?] at q54
        rw [Array.getD_eq_getD_getElem?] at q55
        clear hsz hdep hout hlat
        go_simp
        refine cm.out.mono ?_
        rintro e w7 ⟨rfl, xq⟩
        exact hK _ _ ⟨hJ.next (by decide) (by decide) (by decide) (by decide) xq (fun x hx => by rw [hT] at hx; first | exact Option.some.inj hx | simpa using hx), hC.step rfl hcl⟩
      · have hcl := fun e he hb => (hdep e he hb).1
        rw [if_pos (by rfl)]
        intro K hK
        have q56 := (hdep ⟨4, .data⟩ (by simp) rfl).2 _ rfl _ rfl
        rw [show f 4 = _ from hJ.vals 4 (hdep ⟨4, .data⟩ (by simp) rfl).1 (.bool true) (by rw [hT]; rfl)] at q56
        refine wp_mv _ rfl (hK _ _ ?_)
        rw [show a.eval (.tmp 56) = .bool true from q56]
        exact ⟨hJ.next (by decide) (by decide) (by decide) (by decide) (Ex.refl _) (fun x hx => by rw [hT] at hx; first | exact Option.some.inj hx | simpa using hx), hC.step rfl hcl⟩
      · have hcl := fun e he hb => (hdep e he hb).1
        have kg := (hdep ⟨5, .guard⟩ (by simp) rfl).2 _ rfl _ rfl
        rw [show f 5 = _ from hJ.vals 5 (hdep ⟨5, .guard⟩ (by simp) rfl).1 (.bool true) (by rw [hT]; rfl)] at kg
        rw [if_pos (wanted_of rfl rfl rfl kg)]
        intro K hK
        have q8 := hout 8 (outB_spec (by kernel_rfl))
        exact Sm.wp_ld _ g8 C rfl q8 (DB.ext D0.out hJ.ext) (hK _ _ ⟨hJ.next (by decide) (by decide) (by decide) (by decide) (Ex.refl _) (fun x hx => by rw [hT] at hx; first | exact Option.some.inj hx | simpa using hx), hC.step rfl hcl⟩)
      · have hcl := fun e he hb => (hdep e he hb).1
        have kg := (hdep ⟨5, .guard⟩ (by simp) rfl).2 _ rfl _ rfl
        rw [show f 5 = _ from hJ.vals 5 (hdep ⟨5, .guard⟩ (by simp) rfl).1 (.bool true) (by rw [hT]; rfl)] at kg
        rw [if_pos (wanted_of rfl rfl rfl kg)]
        intro K hK
        have q17 := hout 17 (outB_spec (by kernel_rfl))
        exact wp_ld45 _ g17 ul pl rfl q17 (LB.ext A17.out hJ.ext) (hK _ _ ⟨hJ.next (by decide) (by decide) (by decide) (by decide) (Ex.refl _) (fun x hx => by rw [hT] at hx; first | exact Option.some.inj hx | simpa using hx), hC.step rfl hcl⟩)
      · have hcl := fun e he hb => (hdep e he hb).1
        have kg := (hdep ⟨5, .guard⟩ (by simp) rfl).2 _ rfl _ rfl
        rw [show f 5 = _ from hJ.vals 5 (hdep ⟨5, .guard⟩ (by simp) rfl).1 (.bool true) (by rw [hT]; rfl)] at kg
        rw [if_pos (wanted_of rfl rfl rfl kg)]
        intro K hK
        have q18 := hout 18 (outB_spec (by kernel_rfl))
        exact wp_ld45 _ g18 un pn rfl q18 (LB.ext A18.out hJ.ext) (hK _ _ ⟨hJ.next (by decide) (by decide) (by decide) (by decide) (Ex.refl _) (fun x hx => by rw [hT] at hx; first | exact Option.some.inj hx | simpa using hx), hC.step rfl hcl⟩)
      · have hcl := fun e he hb => (hdep e he hb).1
        have kg := (hdep ⟨5, .guard⟩ (by simp) rfl).2 _ rfl _ rfl
        rw [show f 5 = _ from hJ.vals 5 (hdep ⟨5, .guard⟩ (by simp) rfl).1 (.bool true) (by rw [hT]; rfl)] at kg
        rw [if_pos (wanted_of rfl rfl rfl kg)]
        intro K hK
        have q19 := hout 19 (outB_spec (by kernel_rfl))
        refine wp_mv _ rfl (hK _ _ ?_)
        rw [show a.eval (.tmp 19) = wv from q19]
        exact ⟨hJ.next (by decide) (by decide) (by decide) (by decide) (Ex.refl _) (fun x hx => by rw [hT] at hx; first | exact Option.some.inj hx | simpa using hx), hC.step rfl hcl⟩
      · have hcl := fun e he hb => (hdep e he hb).1
        have kg := (hdep ⟨5, .guard⟩ (by simp) rfl).2 _ rfl _ rfl
        rw [show f 5 = _ from hJ.vals 5 (hdep ⟨5, .guard⟩ (by simp) rfl).1 (.bool true) (by rw [hT]; rfl)] at kg
        rw [if_pos (wanted_of rfl rfl rfl kg)]
        intro K hK
        have q19 := hout 19 (outB_spec (by kernel_rfl))
        refine wp_mv _ rfl (hK _ _ ?_)
        rw [show a.eval (.tmp 19) = wv from q19]
        exact ⟨hJ.next (by decide) (by decide) (by decide) (by decide) (Ex.refl _) (fun x hx => by rw [hT] at hx; first | exact Option.some.inj hx | simpa using hx), hC.step rfl hcl⟩
      · have hcl := fun e he hb => (hdep e he hb).1
        have kg := (hdep ⟨5, .guard⟩ (by simp) rfl).2 _ rfl _ rfl
        rw [show f 5 = _ from hJ.vals 5 (hdep ⟨5, .guard⟩ (by simp) rfl).1 (.bool true) (by rw [hT]; rfl)] at kg
        rw [if_pos (wanted_of rfl rfl rfl kg)]
        intro K hK
        have q61 := (hdep ⟨9, .data⟩ (by simp) rfl).2 _ rfl _ rfl
        rw [show f 9 = _ from hJ.vals 9 (hdep ⟨9, .data⟩ (by simp) rfl).1 (wv) (by rw [hT]; rfl)] at q61
        have q62 := (hdep ⟨10, .data⟩ (by simp) rfl).2 _ rfl _ rfl
        rw [show f 10 = _ from hJ.vals 10 (hdep ⟨10, .data⟩ (by simp) rfl).1 (wv) (by rw [hT]; rfl)] at q62
        have c14 : listed.getD 14 false = true → listed.getD 11 false = true ∧ listed.getD 12 false = true := fun h => by
          have h12 := hC 14 _ rfl h ⟨12, .chain⟩ (by simp) rfl
          exact ⟨hC 12 _ rfl h12 ⟨11, .data⟩ (by simp) rfl, h12⟩
        have n18 : listed.getD 18 false = false := by
          cases e : listed.getD 18 false with
          | false => rfl
          | true => have := (c14 (hC 18 _ rfl e ⟨14, .guard⟩ (by simp) rfl)).1; rw [show listed.getD 11 false = false from hun] at this; cases this
        have n20 : listed.getD 20 false = false := by
          cases e : listed.getD 20 false with
          | false => rfl
          | true => have := (c14 (hC 20 _ rfl e ⟨14, .guard⟩ (by simp) rfl)).1; rw [show listed.getD 11 false = false from hun] at this; cases this
        have n22 : listed.getD 22 false = false := by
          cases e : listed.getD 22 false with
          | false => rfl
          | true => have := (c14 (hC 22 _ rfl e ⟨14, .guard⟩ (by simp) rfl)).1; rw [show listed.getD 11 false = false from hun] at this; cases this
        have ho := hJ.s0 hun
        refine wp_vapp _ _ rfl w3b.heap.size p p (show a.eval (.tmp 61) = p.V by rw [← HPV.out]; exact q61) (show a.eval (.tmp 62) = p.V by rw [← HPV.out]; exact q62) ho (hJ.pin.more hJ.lo) (hJ.pin.more hJ.lo) hJ.ext.size (by have := HLP.out; omega) (fun v' w' r1 r2 r3 => hK _ _ ?_)
        exact ⟨hJ.at11 HB1.out (by rw [hls]; decide) n18 n20 n22 (by rw [hT]; rfl) r1 r2 r3, hC.step rfl hcl⟩
      · have hcl := fun e he hb => (hdep e he hb).1
        have kg := (hdep ⟨5, .guard⟩ (by simp) rfl).2 _ rfl _ rfl
        rw [show f 5 = _ from hJ.vals 5 (hdep ⟨5, .guard⟩ (by simp) rfl).1 (.bool true) (by rw [hT]; rfl)] at kg
        rw [if_pos (wanted_of rfl rfl rfl kg)]
        intro K hK
        have q58 := (hdep ⟨6, .data⟩ (by simp) rfl).2 _ rfl _ rfl
        rw [show f 6 = _ from hJ.vals 6 (hdep ⟨6, .data⟩ (by simp) rfl).1 (digV C) (by rw [hT]; rfl)] at q58
        have q59 := (hdep ⟨7, .data⟩ (by simp) rfl).2 _ rfl _ rfl
        rw [show f 7 = _ from hJ.vals 7 (hdep ⟨7, .data⟩ (by simp) rfl).1 (LV ul pl) (by rw [hT]; rfl)] at q59
        have q60 := (hdep ⟨8, .data⟩ (by simp) rfl).2 _ rfl _ rfl
        rw [show f 8 = _ from hJ.vals 8 (hdep ⟨8, .data⟩ (by simp) rfl).1 (LV un pn) (by rw [hT]; rfl)] at q60
        have q63 := (hdep ⟨11, .data⟩ (by simp) rfl).2 _ rfl _ rfl
        obtain ⟨r, er, rl, ri⟩ := hJ.s11 (hdep ⟨11, .data⟩ (by simp) rfl).1 hun
        rw [er] at q63
        have cm := Lib.hid (SLN.out r w6 hJ.ext ri (by rw [rl, List.length_append]; have := HLP.out; omega))
        unfold LV at cm q59 q60
        unfold Vp.V at cm q63
        clear er rl ri
        generalize r.l.length = nr at cm q63
        rw [Array.getD_eq_getD_getElem?] at q58
        rw [Array.getD_eq_getD_getElem?] at q59
        rw [Array.getD_eq_getD_getElem?] at q60
        rw [Array.getD_eq_getD_getElem?] at q63
        clear hsz hdep hout hlat
        go_simp
        refine cm.out.mono ?_
        rintro e w7 ⟨rfl, xq⟩
        exact hK _ _ ⟨hJ.next (by decide) (by decide) (by decide) (by decide) xq (fun x hx => by rw [hT] at hx; first | exact Option.some.inj hx | simpa using hx), hC.step rfl hcl⟩
      · have hcl := fun e he hb => (hdep e he hb).1
        rw [if_pos (by rfl)]
        intro K hK
        have q57 := (hdep ⟨5, .data⟩ (by simp) rfl).2 _ rfl _ rfl
        rw [show f 5 = _ from hJ.vals 5 (hdep ⟨5, .data⟩ (by simp) rfl).1 (.bool true) (by rw [hT]; rfl)] at q57
        have q64 := (hdep ⟨12, .data⟩ (by simp) rfl).2 _ rfl _ rfl
        rw [show f 12 = _ from hJ.vals 12 (hdep ⟨12, .data⟩ (by simp) rfl).1 (.bool true) (by rw [hT]; rfl)] at q64
        rw [Array.getD_eq_getD_getElem?] at q57
        rw [Array.getD_eq_getD_getElem?] at q64
        clear hsz hdep hout hlat
        go_simp
        exact hK _ _ (⟨hJ.next (by decide) (by decide) (by decide) (by decide) (Ex.refl _) (fun x hx => by rw [hT] at hx; first | exact Option.some.inj hx | simpa using hx), hC.step rfl hcl⟩)
      · have hcl := fun e he hb => (hdep e he hb).1
        rw [if_pos (by rfl)]
        intro K hK
        have q65 := (hdep ⟨13, .data⟩ (by simp) rfl).2 _ rfl _ rfl
        rw [show f 13 = _ from hJ.vals 13 (hdep ⟨13, .data⟩ (by simp) rfl).1 (.bool true) (by rw [hT]; rfl)] at q65
        refine wp_mv _ rfl (hK _ _ ?_)
        rw [show a.eval (.tmp 65) = .bool true from q65]
        exact ⟨hJ.next (by decide) (by decide) (by decide) (by decide) (Ex.refl _) (fun x hx => by rw [hT] at hx; first | exact Option.some.inj hx | simpa using hx), hC.step rfl hcl⟩
      · have hcl := fun e he hb => (hdep e he hb).1
        have kg := (hdep ⟨14, .guard⟩ (by simp) rfl).2 _ rfl _ rfl
        rw [show f 14 = _ from hJ.vals 14 (hdep ⟨14, .guard⟩ (by simp) rfl).1 (.bool true) (by rw [hT]; rfl)] at kg
        rw [if_pos (wanted_of rfl rfl rfl kg)]
        intro K hK
        have q8 := hout 8 (outB_spec (by kernel_rfl))
        exact Sm.wp_ld _ g8 C rfl q8 (DB.ext D0.out hJ.ext) (hK _ _ ⟨hJ.next (by decide) (by decide) (by decide) (by decide) (Ex.refl _) (fun x hx => by rw [hT] at hx; first | exact Option.some.inj hx | simpa using hx), hC.step rfl hcl⟩)
      · have hcl := fun e he hb => (hdep e he hb).1
        have kg := (hdep ⟨14, .guard⟩ (by simp) rfl).2 _ rfl _ rfl
        rw [show f 14 = _ from hJ.vals 14 (hdep ⟨14, .guard⟩ (by simp) rfl).1 (.bool true) (by rw [hT]; rfl)] at kg
        rw [if_pos (wanted_of rfl rfl rfl kg)]
        intro K hK
        have q17 := hout 17 (outB_spec (by kernel_rfl))
        exact wp_ld45 _ g17 ul pl rfl q17 (LB.ext A17.out hJ.ext) (hK _ _ ⟨hJ.next (by decide) (by decide) (by decide) (by decide) (Ex.refl _) (fun x hx => by rw [hT] at hx; first | exact Option.some.inj hx | simpa using hx), hC.step rfl hcl⟩)
      · have hcl := fun e he hb => (hdep e he hb).1
        have kg := (hdep ⟨14, .guard⟩ (by simp) rfl).2 _ rfl _ rfl
        rw [show f 14 = _ from hJ.vals 14 (hdep ⟨14, .guard⟩ (by simp) rfl).1 (.bool true) (by rw [hT]; rfl)] at kg
        rw [if_pos (wanted_of rfl rfl rfl kg)]
        intro K hK
        have q18 := hout 18 (outB_spec (by kernel_rfl))
        exact wp_ld45 _ g18 un pn rfl q18 (LB.ext A18.out hJ.ext) (hK _ _ ⟨hJ.next (by decide) (by decide) (by decide) (by decide) (Ex.refl _) (fun x hx => by rw [hT] at hx; first | exact Option.some.inj hx | simpa using hx), hC.step rfl hcl⟩)
      · have hcl := fun e he hb => (hdep e he hb).1
        have kg := (hdep ⟨14, .guard⟩ (by simp) rfl).2 _ rfl _ rfl
        rw [show f 14 = _ from hJ.vals 14 (hdep ⟨14, .guard⟩ (by simp) rfl).1 (.bool true) (by rw [hT]; rfl)] at kg
        rw [if_pos (wanted_of rfl rfl rfl kg)]
        intro K hK
        clear hsz hdep hout hlat
        go_simp
        exact hK _ _ ⟨hJ.at18 (by rw [hT]; rfl), hC.step rfl hcl⟩
      · have hcl := fun e he hb => (hdep e he hb).1
        have kg := (hdep ⟨14, .guard⟩ (by simp) rfl).2 _ rfl _ rfl
        rw [show f 14 = _ from hJ.vals 14 (hdep ⟨14, .guard⟩ (by simp) rfl).1 (.bool true) (by rw [hT]; rfl)] at kg
        rw [if_pos (wanted_of rfl rfl rfl kg)]
        intro K hK
        have q7 := hout 7 (outB_spec (by kernel_rfl))
        refine wp_mv _ rfl (hK _ _ ?_)
        rw [show a.eval (.tmp 7) = mv from q7]
        exact ⟨hJ.next (by decide) (by decide) (by decide) (by decide) (Ex.refl _) (fun x hx => by rw [hT] at hx; first | exact Option.some.inj hx | simpa using hx), hC.step rfl hcl⟩
      · have hcl := fun e he hb => (hdep e he hb).1
        have kg := (hdep ⟨14, .guard⟩ (by simp) rfl).2 _ rfl _ rfl
        rw [show f 14 = _ from hJ.vals 14 (hdep ⟨14, .guard⟩ (by simp) rfl).1 (.bool true) (by rw [hT]; rfl)] at kg
        rw [if_pos (wanted_of rfl rfl rfl kg)]
        intro K hK
        have q70 := (hdep ⟨18, .data⟩ (by simp) rfl).2 _ rfl _ rfl
        have q71 := (hdep ⟨19, .data⟩ (by simp) rfl).2 _ rfl _ rfl
        rw [show f 19 = _ from hJ.vals 19 (hdep ⟨19, .data⟩ (by simp) rfl).1 (mv) (by rw [hT]; rfl)] at q71
        have c14 : listed.getD 14 false = true → listed.getD 11 false = true ∧ listed.getD 12 false = true := fun h => by
          have h12 := hC 14 _ rfl h ⟨12, .chain⟩ (by simp) rfl
          exact ⟨hC 12 _ rfl h12 ⟨11, .data⟩ (by simp) rfl, h12⟩
        obtain ⟨c11, c12⟩ := c14 (hdep ⟨14, .guard⟩ (by simp) rfl).1
        have n22 : listed.getD 22 false = false := by
          cases e : listed.getD 22 false with
          | false => rfl
          | true => have := hC 22 _ rfl e ⟨20, .data⟩ (by simp) rfl; rw [show listed.getD 20 false = false from hun] at this; cases this
        have ho := hJ.s18 (hdep ⟨18, .data⟩ (by simp) rfl).1 hun
        obtain ⟨z, ez, zl, zi⟩ := vown_vp ho
        rw [ez] at q70
        rw [ez, ← zl] at ho
        refine wp_vapp _ _ rfl B1 z mo (show a.eval (.tmp 70) = z.V from q70) (show a.eval (.tmp 71) = mo.V by rw [← HMV.out]; exact q71) ho zi (Vp.In.ext MI.out hJ.ext) hJ.lo (by rw [zl]; have := HLM.out; rw [← HML.out] at this; simp; omega) (fun v' w' r1 r2 r3 => hK _ _ ?_)
        rw [zl, List.nil_append, HML.out] at r1
        exact ⟨hJ.at20 HB1.out (by rw [hls]; decide) c11 c12 n22 (by rw [hT]; rfl) r1 r2, hC.step rfl hcl⟩
      · have hcl := fun e he hb => (hdep e he hb).1
        have kg := (hdep ⟨14, .guard⟩ (by simp) rfl).2 _ rfl _ rfl
        rw [show f 14 = _ from hJ.vals 14 (hdep ⟨14, .guard⟩ (by simp) rfl).1 (.bool true) (by rw [hT]; rfl)] at kg
        rw [if_pos (wanted_of rfl rfl rfl kg)]
        intro K hK
        have q19 := hout 19 (outB_spec (by kernel_rfl))
        refine wp_mv _ rfl (hK _ _ ?_)
        rw [show a.eval (.tmp 19) = wv from q19]
        exact ⟨hJ.next (by decide) (by decide) (by decide) (by decide) (Ex.refl _) (fun x hx => by rw [hT] at hx; first | exact Option.some.inj hx | simpa using hx), hC.step rfl hcl⟩
      · have hcl := fun e he hb => (hdep e he hb).1
        have kg := (hdep ⟨14, .guard⟩ (by simp) rfl).2 _ rfl _ rfl
        rw [show f 14 = _ from hJ.vals 14 (hdep ⟨14, .guard⟩ (by simp) rfl).1 (.bool true) (by rw [hT]; rfl)] at kg
        rw [if_pos (wanted_of rfl rfl rfl kg)]
        intro K hK
        have q72 := (hdep ⟨20, .data⟩ (by simp) rfl).2 _ rfl _ rfl
        have q73 := (hdep ⟨21, .data⟩ (by simp) rfl).2 _ rfl _ rfl
        rw [show f 21 = _ from hJ.vals 21 (hdep ⟨21, .data⟩ (by simp) rfl).1 (wv) (by rw [hT]; rfl)] at q73
        have c14 : listed.getD 14 false = true → listed.getD 11 false = true ∧ listed.getD 12 false = true := fun h => by
          have h12 := hC 14 _ rfl h ⟨12, .chain⟩ (by simp) rfl
          exact ⟨hC 12 _ rfl h12 ⟨11, .data⟩ (by simp) rfl, h12⟩
        obtain ⟨c11, c12⟩ := c14 (hdep ⟨14, .guard⟩ (by simp) rfl).1
        have l20 := (hdep ⟨20, .data⟩ (by simp) rfl).1
        have ho := hJ.s20 l20 hun
        obtain ⟨z, ez, zl, zi⟩ := vown_vp ho
        rw [ez] at q72
        rw [ez, ← zl] at ho
        refine wp_vapp _ _ rfl B1 z p (show a.eval (.tmp 72) = z.V from q72) (show a.eval (.tmp 73) = p.V by rw [← HPV.out]; exact q73) ho zi (hJ.pin.more hJ.lo) hJ.lo (by rw [zl]; have := HLM.out; have := HLP.out; omega) (fun v' w' r1 r2 r3 => hK _ _ ?_)
        rw [zl] at r1
        exact ⟨hJ.at22 HB1.out (by rw [hls]; decide) c11 c12 l20 (by rw [hT]; rfl) r1 r2, hC.step rfl hcl⟩
      · have hcl := fun e he hb => (hdep e he hb).1
        have kg := (hdep ⟨14, .guard⟩ (by simp) rfl).2 _ rfl _ rfl
        rw [show f 14 = _ from hJ.vals 14 (hdep ⟨14, .guard⟩ (by simp) rfl).1 (.bool true) (by rw [hT]; rfl)] at kg
        rw [if_pos (wanted_of rfl rfl rfl kg)]
        intro K hK
        have q67 := (hdep ⟨15, .data⟩ (by simp) rfl).2 _ rfl _ rfl
        rw [show f 15 = _ from hJ.vals 15 (hdep ⟨15, .data⟩ (by simp) rfl).1 (digV C) (by rw [hT]; rfl)] at q67
        have q68 := (hdep ⟨16, .data⟩ (by simp) rfl).2 _ rfl _ rfl
        rw [show f 16 = _ from hJ.vals 16 (hdep ⟨16, .data⟩ (by simp) rfl).1 (LV ul pl) (by rw [hT]; rfl)] at q68
        have q69 := (hdep ⟨17, .data⟩ (by simp) rfl).2 _ rfl _ rfl
        rw [show f 17 = _ from hJ.vals 17 (hdep ⟨17, .data⟩ (by simp) rfl).1 (LV un pn) (by rw [hT]; rfl)] at q69
        have q74 := (hdep ⟨22, .data⟩ (by simp) rfl).2 _ rfl _ rfl
        obtain ⟨r, er, rl, ri⟩ := hJ.s22 (hdep ⟨22, .data⟩ (by simp) rfl).1 hun
        rw [er] at q74
        have cm := Lib.hid (SLN.out r w6 hJ.ext ri (by rw [rl, List.length_append]; have := HLP.out; have := HLM.out; omega))
        unfold LV at cm q68 q69
        unfold Vp.V at cm q74
        clear er rl ri
        generalize r.l.length = nr at cm q74
        rw [Array.getD_eq_getD_getElem?] at q67
        rw [Array.getD_eq_getD_getElem?] at q68
        rw [Array.getD_eq_getD_getElem?] at q69
        rw [Array.getD_eq_getD_getElem?] at q74
        clear hsz hdep hout hlat
        go_simp
        refine cm.out.mono ?_
        rintro e w7 ⟨rfl, xq⟩
        exact hK _ _ ⟨hJ.next (by decide) (by decide) (by decide) (by decide) xq (fun x hx => by rw [hT] at hx; first | exact Option.some.inj hx | simpa using hx), hC.step rfl hcl⟩
      · have hcl := fun e he hb => (hdep e he hb).1
        rw [if_pos (by rfl)]
        intro K hK
        have q66 := (hdep ⟨14, .data⟩ (by simp) rfl).2 _ rfl _ rfl
        rw [show f 14 = _ from hJ.vals 14 (hdep ⟨14, .data⟩ (by simp) rfl).1 (.bool true) (by rw [hT]; rfl)] at q66
        have q75 := (hdep ⟨23, .data⟩ (by simp) rfl).2 _ rfl _ rfl
        rw [show f 23 = _ from hJ.vals 23 (hdep ⟨23, .data⟩ (by simp) rfl).1 (.bool true) (by rw [hT]; rfl)] at q75
        rw [Array.getD_eq_getD_getElem?] at q66
        rw [Array.getD_eq_getD_getElem?] at q75
        clear hsz hdep hout hlat
        go_simp
        exact hK _ _ (⟨hJ.next (by decide) (by decide) (by decide) (by decide) (Ex.refl _) (fun x hx => by rw [hT] at hx; first | exact Option.some.inj hx | simpa using hx), hC.step rfl hcl⟩)
      · have hcl := fun e he hb => (hdep e he hb).1
        rw [if_pos (by rfl)]
        intro K hK
        have q76 := (hdep ⟨24, .data⟩ (by simp) rfl).2 _ rfl _ rfl
        rw [show f 24 = _ from hJ.vals 24 (hdep ⟨24, .data⟩ (by simp) rfl).1 (.bool true) (by rw [hT]; rfl)] at q76
        refine wp_mv _ rfl (hK _ _ ?_)
        rw [show a.eval (.tmp 76) = .bool true from q76]
        exact ⟨hJ.next (by decide) (by decide) (by decide) (by decide) (Ex.refl _) (fun x hx => by rw [hT] at hx; first | exact Option.some.inj hx | simpa using hx), hC.step rfl hcl⟩
      · have hcl := fun e he hb => (hdep e he hb).1
        have kg := (hdep ⟨25, .guard⟩ (by simp) rfl).2 _ rfl _ rfl
        rw [show f 25 = _ from hJ.vals 25 (hdep ⟨25, .guard⟩ (by simp) rfl).1 (.bool true) (by rw [hT]; rfl)] at kg
        rw [if_pos (wanted_of rfl rfl rfl kg)]
        intro K hK
        have q8 := hout 8 (outB_spec (by kernel_rfl))
        exact Sm.wp_ld _ g8 C rfl q8 (DB.ext D0.out hJ.ext) (hK _ _ ⟨hJ.next (by decide) (by decide) (by decide) (by decide) (Ex.refl _) (fun x hx => by rw [hT] at hx; first | exact Option.some.inj hx | simpa using hx), hC.step rfl hcl⟩)
      · have hcl := fun e he hb => (hdep e he hb).1
        have kg := (hdep ⟨25, .guard⟩ (by simp) rfl).2 _ rfl _ rfl
        rw [show f 25 = _ from hJ.vals 25 (hdep ⟨25, .guard⟩ (by simp) rfl).1 (.bool true) (by rw [hT]; rfl)] at kg
        rw [if_pos (wanted_of rfl rfl rfl kg)]
        intro K hK
        have q14 := hout 14 (outB_spec (by kernel_rfl))
        exact wp_ld45 _ g14 ur pr rfl q14 (LB.ext A14.out hJ.ext) (hK _ _ ⟨hJ.next (by decide) (by decide) (by decide) (by decide) (Ex.refl _) (fun x hx => by rw [hT] at hx; first | exact Option.some.inj hx | simpa using hx), hC.step rfl hcl⟩)
      · have hcl := fun e he hb => (hdep e he hb).1
        have kg := (hdep ⟨25, .guard⟩ (by simp) rfl).2 _ rfl _ rfl
        rw [show f 25 = _ from hJ.vals 25 (hdep ⟨25, .guard⟩ (by simp) rfl).1 (.bool true) (by rw [hT]; rfl)] at kg
        rw [if_pos (wanted_of rfl rfl rfl kg)]
        intro K hK
        have q18 := hout 18 (outB_spec (by kernel_rfl))
        exact wp_ld45 _ g18 un pn rfl q18 (LB.ext A18.out hJ.ext) (hK _ _ ⟨hJ.next (by decide) (by decide) (by decide) (by decide) (Ex.refl _) (fun x hx => by rw [hT] at hx; first | exact Option.some.inj hx | simpa using hx), hC.step rfl hcl⟩)
      · have hcl := fun e he hb => (hdep e he hb).1
        have kg := (hdep ⟨25, .guard⟩ (by simp) rfl).2 _ rfl _ rfl
        rw [show f 25 = _ from hJ.vals 25 (hdep ⟨25, .guard⟩ (by simp) rfl).1 (.bool true) (by rw [hT]; rfl)] at kg
        rw [if_pos (wanted_of rfl rfl rfl kg)]
        intro K hK
        have q19 := hout 19 (outB_spec (by kernel_rfl))
        refine wp_mv _ rfl (hK _ _ ?_)
        rw [show a.eval (.tmp 19) = wv from q19]
        exact ⟨hJ.next (by decide) (by decide) (by decide) (by decide) (Ex.refl _) (fun x hx => by rw [hT] at hx; first | exact Option.some.inj hx | simpa using hx), hC.step rfl hcl⟩
      · have hcl := fun e he hb => (hdep e he hb).1
        have kg := (hdep ⟨25, .guard⟩ (by simp) rfl).2 _ rfl _ rfl
        rw [show f 25 = _ from hJ.vals 25 (hdep ⟨25, .guard⟩ (by simp) rfl).1 (.bool true) (by rw [hT]; rfl)] at kg
        rw [if_pos (wanted_of rfl rfl rfl kg)]
        intro K hK
        have q78 := (hdep ⟨26, .data⟩ (by simp) rfl).2 _ rfl _ rfl
        rw [show f 26 = _ from hJ.vals 26 (hdep ⟨26, .data⟩ (by simp) rfl).1 (digV C) (by rw [hT]; rfl)] at q78
        have q79 := (hdep ⟨27, .data⟩ (by simp) rfl).2 _ rfl _ rfl
        rw [show f 27 = _ from hJ.vals 27 (hdep ⟨27, .data⟩ (by simp) rfl).1 (LV ur pr) (by rw [hT]; rfl)] at q79
        have q80 := (hdep ⟨28, .data⟩ (by simp) rfl).2 _ rfl _ rfl
        rw [show f 28 = _ from hJ.vals 28 (hdep ⟨28, .data⟩ (by simp) rfl).1 (LV un pn) (by rw [hT]; rfl)] at q80
        have q81 := (hdep ⟨29, .data⟩ (by simp) rfl).2 _ rfl _ rfl
        rw [show f 29 = _ from hJ.vals 29 (hdep ⟨29, .data⟩ (by simp) rfl).1 (wv) (by rw [hT]; rfl)] at q81
        have cm := Lib.hid (SRN.out p w6 hJ.ext (hJ.pin.more hJ.lo) (by have := HLP.out; omega))
        unfold LV at cm q79 q80
        rw [show p.V = wv from HPV.out.symm] at cm
        rw [Array.getD_eq_getD_getElem?] at q78
        rw [Array.getD_eq_getD_getElem?] at q79
        rw [Array.getD_eq_getD_getElem?] at q80
        rw [Array.getD_eq_getD_getElem?] at q81
        clear hsz hdep hout hlat
        go_simp
        refine cm.out.mono ?_
        rintro e w7 ⟨rfl, xq⟩
        exact hK _ _ ⟨hJ.next (by decide) (by decide) (by decide) (by decide) xq (fun x hx => by rw [hT] at hx; first | exact Option.some.inj hx | simpa using hx), hC.step rfl hcl⟩
      · have hcl := fun e he hb => (hdep e he hb).1
        rw [if_pos (by rfl)]
        intro K hK
        have q77 := (hdep ⟨25, .data⟩ (by simp) rfl).2 _ rfl _ rfl
        rw [show f 25 = _ from hJ.vals 25 (hdep ⟨25, .data⟩ (by simp) rfl).1 (.bool true) (by rw [hT]; rfl)] at q77
        have q82 := (hdep ⟨30, .data⟩ (by simp) rfl).2 _ rfl _ rfl
        rw [show f 30 = _ from hJ.vals 30 (hdep ⟨30, .data⟩ (by simp) rfl).1 (.bool true) (by rw [hT]; rfl)] at q82
        rw [Array.getD_eq_getD_getElem?] at q77
        rw [Array.getD_eq_getD_getElem?] at q82
        clear hsz hdep hout hlat
        go_simp
        exact hK _ _ (⟨hJ.next (by decide) (by decide) (by decide) (by decide) (Ex.refl _) (fun x hx => by rw [hT] at hx; first | exact Option.some.inj hx | simpa using hx), hC.step rfl hcl⟩)
      · have hcl := fun e he hb => (hdep e he hb).1
        rw [if_pos (by rfl)]
        intro K hK
        have q83 := (hdep ⟨31, .data⟩ (by simp) rfl).2 _ rfl _ rfl
        rw [show f 31 = _ from hJ.vals 31 (hdep ⟨31, .data⟩ (by simp) rfl).1 (.bool true) (by rw [hT]; rfl)] at q83
        refine wp_mv _ rfl (hK _ _ ?_)
        rw [show a.eval (.tmp 83) = .bool true from q83]
        exact ⟨hJ.next (by decide) (by decide) (by decide) (by decide) (Ex.refl _) (fun x hx => by rw [hT] at hx; first | exact Option.some.inj hx | simpa using hx), hC.step rfl hcl⟩
      · have hcl := fun e he hb => (hdep e he hb).1
        have kg := (hdep ⟨32, .guard⟩ (by simp) rfl).2 _ rfl _ rfl
        rw [show f 32 = _ from hJ.vals 32 (hdep ⟨32, .guard⟩ (by simp) rfl).1 (.bool true) (by rw [hT]; rfl)] at kg
        rw [if_pos (wanted_of rfl rfl rfl kg)]
        intro K hK
        have q8 := hout 8 (outB_spec (by kernel_rfl))
        exact Sm.wp_ld _ g8 C rfl q8 (DB.ext D0.out hJ.ext) (hK _ _ ⟨hJ.next (by decide) (by decide) (by decide) (by decide) (Ex.refl _) (fun x hx => by rw [hT] at hx; first | exact Option.some.inj hx | simpa using hx), hC.step rfl hcl⟩)
      · have hcl := fun e he hb => (hdep e he hb).1
        have kg := (hdep ⟨32, .guard⟩ (by simp) rfl).2 _ rfl _ rfl
        rw [show f 32 = _ from hJ.vals 32 (hdep ⟨32, .guard⟩ (by simp) rfl).1 (.bool true) (by rw [hT]; rfl)] at kg
        rw [if_pos (wanted_of rfl rfl rfl kg)]
        intro K hK
        have q17 := hout 17 (outB_spec (by kernel_rfl))
        exact wp_ld45 _ g17 ul pl rfl q17 (LB.ext A17.out hJ.ext) (hK _ _ ⟨hJ.next (by decide) (by decide) (by decide) (by decide) (Ex.refl _) (fun x hx => by rw [hT] at hx; first | exact Option.some.inj hx | simpa using hx), hC.step rfl hcl⟩)
      · have hcl := fun e he hb => (hdep e he hb).1
        have kg := (hdep ⟨32, .guard⟩ (by simp) rfl).2 _ rfl _ rfl
        rw [show f 32 = _ from hJ.vals 32 (hdep ⟨32, .guard⟩ (by simp) rfl).1 (.bool true) (by rw [hT]; rfl)] at kg
        rw [if_pos (wanted_of rfl rfl rfl kg)]
        intro K hK
        have q14 := hout 14 (outB_spec (by kernel_rfl))
        exact wp_ld45 _ g14 ur pr rfl q14 (LB.ext A14.out hJ.ext) (hK _ _ ⟨hJ.next (by decide) (by decide) (by decide) (by decide) (Ex.refl _) (fun x hx => by rw [hT] at hx; first | exact Option.some.inj hx | simpa using hx), hC.step rfl hcl⟩)
      · have hcl := fun e he hb => (hdep e he hb).1
        have kg := (hdep ⟨32, .guard⟩ (by simp) rfl).2 _ rfl _ rfl
        rw [show f 32 = _ from hJ.vals 32 (hdep ⟨32, .guard⟩ (by simp) rfl).1 (.bool true) (by rw [hT]; rfl)] at kg
        rw [if_pos (wanted_of rfl rfl rfl kg)]
        intro K hK
        have q19 := hout 19 (outB_spec (by kernel_rfl))
        refine wp_mv _ rfl (hK _ _ ?_)
        rw [show a.eval (.tmp 19) = wv from q19]
        exact ⟨hJ.next (by decide) (by decide) (by decide) (by decide) (Ex.refl _) (fun x hx => by rw [hT] at hx; first | exact Option.some.inj hx | simpa using hx), hC.step rfl hcl⟩
      · have hcl := fun e he hb => (hdep e he hb).1
        have kg := (hdep ⟨32, .guard⟩ (by simp) rfl).2 _ rfl _ rfl
        rw [show f 32 = _ from hJ.vals 32 (hdep ⟨32, .guard⟩ (by simp) rfl).1 (.bool true) (by rw [hT]; rfl)] at kg
        rw [if_pos (wanted_of rfl rfl rfl kg)]
        intro K hK
        have q85 := (hdep ⟨33, .data⟩ (by simp) rfl).2 _ rfl _ rfl
        rw [show f 33 = _ from hJ.vals 33 (hdep ⟨33, .data⟩ (by simp) rfl).1 (digV C) (by rw [hT]; rfl)] at q85
        have q86 := (hdep ⟨34, .data⟩ (by simp) rfl).2 _ rfl _ rfl
        rw [show f 34 = _ from hJ.vals 34 (hdep ⟨34, .data⟩ (by simp) rfl).1 (LV ul pl) (by rw [hT]; rfl)] at q86
        have q87 := (hdep ⟨35, .data⟩ (by simp) rfl).2 _ rfl _ rfl
        rw [show f 35 = _ from hJ.vals 35 (hdep ⟨35, .data⟩ (by simp) rfl).1 (LV ur pr) (by rw [hT]; rfl)] at q87
        have q88 := (hdep ⟨36, .data⟩ (by simp) rfl).2 _ rfl _ rfl
        rw [show f 36 = _ from hJ.vals 36 (hdep ⟨36, .data⟩ (by simp) rfl).1 (wv) (by rw [hT]; rfl)] at q88
        have cm := Lib.hid (SLR.out p w6 hJ.ext (hJ.pin.more hJ.lo) (by have := HLP.out; omega))
        unfold LV at cm q86 q87
        rw [show p.V = wv from HPV.out.symm] at cm
        rw [Array.getD_eq_getD_getElem?] at q85
        rw [Array.getD_eq_getD_getElem?] at q86
        rw [Array.getD_eq_getD_getElem?] at q87
        rw [Array.getD_eq_getD_getElem?] at q88
        clear hsz hdep hout hlat
        go_simp
        refine cm.out.mono ?_
        rintro e w7 ⟨rfl, xq⟩
        exact hK _ _ ⟨hJ.next (by decide) (by decide) (by decide) (by decide) xq (fun x hx => by rw [hT] at hx; first | exact Option.some.inj hx | simpa using hx), hC.step rfl hcl⟩
      · have hcl := fun e he hb => (hdep e he hb).1
        rw [if_pos (by rfl)]
        intro K hK
        have q84 := (hdep ⟨32, .data⟩ (by simp) rfl).2 _ rfl _ rfl
        rw [show f 32 = _ from hJ.vals 32 (hdep ⟨32, .data⟩ (by simp) rfl).1 (.bool true) (by rw [hT]; rfl)] at q84
        have q89 := (hdep ⟨37, .data⟩ (by simp) rfl).2 _ rfl _ rfl
        rw [show f 37 = _ from hJ.vals 37 (hdep ⟨37, .data⟩ (by simp) rfl).1 (.bool true) (by rw [hT]; rfl)] at q89
        rw [Array.getD_eq_getD_getElem?] at q84
        rw [Array.getD_eq_getD_getElem?] at q89
        clear hsz hdep hout hlat
        go_simp
        exact hK _ _ (⟨hJ.next (by decide) (by decide) (by decide) (by decide) (Ex.refl _) (fun x hx => by rw [hT] at hx; first | exact Option.some.inj hx | simpa using hx), hC.step rfl hcl⟩)
      · have hcl := fun e he hb => (hdep e he hb).1
        rw [if_pos (by rfl)]
        intro K hK
        have q90 := (hdep ⟨38, .data⟩ (by simp) rfl).2 _ rfl _ rfl
        rw [show f 38 = _ from hJ.vals 38 (hdep ⟨38, .data⟩ (by simp) rfl).1 (.bool true) (by rw [hT]; rfl)] at q90
        refine wp_mv _ rfl (hK _ _ ?_)
        rw [show a.eval (.tmp 90) = .bool true from q90]
        exact ⟨hJ.next (by decide) (by decide) (by decide) (by decide) (Ex.refl _) (fun x hx => by rw [hT] at hx; first | exact Option.some.inj hx | simpa using hx), hC.step rfl hcl⟩
      · have hcl := fun e he hb => (hdep e he hb).1
        have kg := (hdep ⟨39, .guard⟩ (by simp) rfl).2 _ rfl _ rfl
        rw [show f 39 = _ from hJ.vals 39 (hdep ⟨39, .guard⟩ (by simp) rfl).1 (.bool true) (by rw [hT]; rfl)] at kg
        rw [if_pos (wanted_of rfl rfl rfl kg)]
        intro K hK
        have q8 := hout 8 (outB_spec (by kernel_rfl))
        exact Sm.wp_ld _ g8 C rfl q8 (DB.ext D0.out hJ.ext) (hK _ _ ⟨hJ.next (by decide) (by decide) (by decide) (by decide) (Ex.refl _) (fun x hx => by rw [hT] at hx; first | exact Option.some.inj hx | simpa using hx), hC.step rfl hcl⟩)
      · have hcl := fun e he hb => (hdep e he hb).1
        have kg := (hdep ⟨39, .guard⟩ (by simp) rfl).2 _ rfl _ rfl
        rw [show f 39 = _ from hJ.vals 39 (hdep ⟨39, .guard⟩ (by simp) rfl).1 (.bool true) (by rw [hT]; rfl)] at kg
        rw [if_pos (wanted_of rfl rfl rfl kg)]
        intro K hK
        have q3 := hout 3 (outB_spec (by kernel_rfl))
        refine wp_mv _ rfl (hK _ _ ?_)
        rw [show a.eval (.tmp 3) = .int .i64 who from q3]
        exact ⟨hJ.next (by decide) (by decide) (by decide) (by decide) (Ex.refl _) (fun x hx => by rw [hT] at hx; first | exact Option.some.inj hx | simpa using hx), hC.step rfl hcl⟩
      · have hcl := fun e he hb => (hdep e he hb).1
        have kg := (hdep ⟨39, .guard⟩ (by simp) rfl).2 _ rfl _ rfl
        rw [show f 39 = _ from hJ.vals 39 (hdep ⟨39, .guard⟩ (by simp) rfl).1 (.bool true) (by rw [hT]; rfl)] at kg
        rw [if_pos (wanted_of rfl rfl rfl kg)]
        intro K hK
        have q92 := (hdep ⟨40, .data⟩ (by simp) rfl).2 _ rfl _ rfl
        rw [show f 40 = _ from hJ.vals 40 (hdep ⟨40, .data⟩ (by simp) rfl).1 (digV C) (by rw [hT]; rfl)] at q92
        have q93 := (hdep ⟨41, .data⟩ (by simp) rfl).2 _ rfl _ rfl
        rw [show f 41 = _ from hJ.vals 41 (hdep ⟨41, .data⟩ (by simp) rfl).1 (.int .i64 who) (by rw [hT]; rfl)] at q93
        rw [Array.getD_eq_getD_getElem?] at q92
        rw [Array.getD_eq_getD_getElem?] at q93
        clear hsz hdep hout hlat
        go_simp
        refine (show Calls Try.prog 40 #[digV C, .int .i64 who] w6 fun e w' => e = .returned (digV (keyL C who)) ∧ Below w6.heap.size w6 w' from Sm.key_any C HC.out who w6).mono ?_
        rintro e w7 ⟨rfl, xq⟩
        exact hK _ _ ⟨hJ.next (by decide) (by decide) (by decide) (by decide) xq (fun x hx => by rw [hT] at hx; first | exact Option.some.inj hx | simpa using hx), hC.step rfl hcl⟩
      · have hcl := fun e he hb => (hdep e he hb).1
        have kg := (hdep ⟨39, .guard⟩ (by simp) rfl).2 _ rfl _ rfl
        rw [show f 39 = _ from hJ.vals 39 (hdep ⟨39, .guard⟩ (by simp) rfl).1 (.bool true) (by rw [hT]; rfl)] at kg
        rw [if_pos (wanted_of rfl rfl rfl kg)]
        intro K hK
        have q8 := hout 8 (outB_spec (by kernel_rfl))
        exact Sm.wp_ld _ g8 C rfl q8 (DB.ext D0.out hJ.ext) (hK _ _ ⟨hJ.next (by decide) (by decide) (by decide) (by decide) (Ex.refl _) (fun x hx => by rw [hT] at hx; first | exact Option.some.inj hx | simpa using hx), hC.step rfl hcl⟩)
      · have hcl := fun e he hb => (hdep e he hb).1
        have kg := (hdep ⟨39, .guard⟩ (by simp) rfl).2 _ rfl _ rfl
        rw [show f 39 = _ from hJ.vals 39 (hdep ⟨39, .guard⟩ (by simp) rfl).1 (.bool true) (by rw [hT]; rfl)] at kg
        rw [if_pos (wanted_of rfl rfl rfl kg)]
        intro K hK
        have q3 := hout 3 (outB_spec (by kernel_rfl))
        refine wp_mv _ rfl (hK _ _ ?_)
        rw [show a.eval (.tmp 3) = .int .i64 who from q3]
        exact ⟨hJ.next (by decide) (by decide) (by decide) (by decide) (Ex.refl _) (fun x hx => by rw [hT] at hx; first | exact Option.some.inj hx | simpa using hx), hC.step rfl hcl⟩
      · have hcl := fun e he hb => (hdep e he hb).1
        have kg := (hdep ⟨39, .guard⟩ (by simp) rfl).2 _ rfl _ rfl
        rw [show f 39 = _ from hJ.vals 39 (hdep ⟨39, .guard⟩ (by simp) rfl).1 (.bool true) (by rw [hT]; rfl)] at kg
        rw [if_pos (wanted_of rfl rfl rfl kg)]
        intro K hK
        have q95 := (hdep ⟨43, .data⟩ (by simp) rfl).2 _ rfl _ rfl
        rw [show f 43 = _ from hJ.vals 43 (hdep ⟨43, .data⟩ (by simp) rfl).1 (digV C) (by rw [hT]; rfl)] at q95
        have q96 := (hdep ⟨44, .data⟩ (by simp) rfl).2 _ rfl _ rfl
        rw [show f 44 = _ from hJ.vals 44 (hdep ⟨44, .data⟩ (by simp) rfl).1 (.int .i64 who) (by rw [hT]; rfl)] at q96
        rw [Array.getD_eq_getD_getElem?] at q95
        rw [Array.getD_eq_getD_getElem?] at q96
        clear hsz hdep hout hlat
        go_simp
        refine (show Calls Try.prog 41 #[digV C, .int .i64 who] w6 fun e w' => e = .returned (digV (keyL C who)) ∧ Below w6.heap.size w6 w' from Sm.rkey_any C HC.out who w6).mono ?_
        rintro e w7 ⟨rfl, xq⟩
        exact hK _ _ ⟨hJ.next (by decide) (by decide) (by decide) (by decide) xq (fun x hx => by rw [hT] at hx; first | exact Option.some.inj hx | simpa using hx), hC.step rfl hcl⟩
      · have hcl := fun e he hb => (hdep e he hb).1
        have kg := (hdep ⟨39, .guard⟩ (by simp) rfl).2 _ rfl _ rfl
        rw [show f 39 = _ from hJ.vals 39 (hdep ⟨39, .guard⟩ (by simp) rfl).1 (.bool true) (by rw [hT]; rfl)] at kg
        rw [if_pos (wanted_of rfl rfl rfl kg)]
        intro K hK
        have q94 := (hdep ⟨42, .data⟩ (by simp) rfl).2 _ rfl _ rfl
        rw [show f 42 = _ from hJ.vals 42 (hdep ⟨42, .data⟩ (by simp) rfl).1 (digV (keyL C who)) (by rw [hT]; rfl)] at q94
        have q97 := (hdep ⟨45, .data⟩ (by simp) rfl).2 _ rfl _ rfl
        rw [show f 45 = _ from hJ.vals 45 (hdep ⟨45, .data⟩ (by simp) rfl).1 (digV (keyL C who)) (by rw [hT]; rfl)] at q97
        refine Sm.wp_eql_dig _ _ _ rfl (keyL C who) (keyL C who) rfl rfl q94 q97 ?_
        rw [decide_eq_true rfl]
        exact hK _ _ ⟨hJ.next (by decide) (by decide) (by decide) (by decide) (Ex.refl _) (fun x hx => by rw [hT] at hx; first | exact Option.some.inj hx | simpa using hx), hC.step rfl hcl⟩
      · have hcl := fun e he hb => (hdep e he hb).1
        rw [if_pos (by rfl)]
        intro K hK
        have q91 := (hdep ⟨39, .data⟩ (by simp) rfl).2 _ rfl _ rfl
        rw [show f 39 = _ from hJ.vals 39 (hdep ⟨39, .data⟩ (by simp) rfl).1 (.bool true) (by rw [hT]; rfl)] at q91
        have q98 := (hdep ⟨46, .data⟩ (by simp) rfl).2 _ rfl _ rfl
        rw [show f 46 = _ from hJ.vals 46 (hdep ⟨46, .data⟩ (by simp) rfl).1 (.bool true) (by rw [hT]; rfl)] at q98
        rw [Array.getD_eq_getD_getElem?] at q91
        rw [Array.getD_eq_getD_getElem?] at q98
        clear hsz hdep hout hlat
        go_simp
        exact hK _ _ (⟨hJ.next (by decide) (by decide) (by decide) (by decide) (Ex.refl _) (fun x hx => by rw [hT] at hx; first | exact Option.some.inj hx | simpa using hx), hC.step rfl hcl⟩)
      · have hcl := fun e he hb => (hdep e he hb).1
        rw [if_pos (by rfl)]
        intro K hK
        have q99 := (hdep ⟨47, .data⟩ (by simp) rfl).2 _ rfl _ rfl
        rw [show f 47 = _ from hJ.vals 47 (hdep ⟨47, .data⟩ (by simp) rfl).1 (.bool true) (by rw [hT]; rfl)] at q99
        refine wp_mv _ rfl (hK _ _ ?_)
        rw [show a.eval (.tmp 99) = .bool true from q99]
        exact ⟨hJ.next (by decide) (by decide) (by decide) (by decide) (Ex.refl _) (fun x hx => by rw [hT] at hx; first | exact Option.some.inj hx | simpa using hx), hC.step rfl hcl⟩
      · have hcl := fun e he hb => (hdep e he hb).1
        have kg := (hdep ⟨48, .guard⟩ (by simp) rfl).2 _ rfl _ rfl
        rw [show f 48 = _ from hJ.vals 48 (hdep ⟨48, .guard⟩ (by simp) rfl).1 (.bool true) (by rw [hT]; rfl)] at kg
        rw [if_pos (wanted_of rfl rfl rfl kg)]
        intro K hK
        clear hsz hdep hout hlat
        go_simp
        refine (KN.out w6).mono ?_
        rintro e w7 ⟨rfl, xq⟩
        exact hK _ _ ⟨hJ.next (by decide) (by decide) (by decide) (by decide) xq (fun x hx => by rw [hT] at hx; first | exact Option.some.inj hx | simpa using hx), hC.step rfl hcl⟩
      · have hcl := fun e he hb => (hdep e he hb).1
        rw [if_pos (by rfl)]
        intro K hK
        have q100 := (hdep ⟨48, .data⟩ (by simp) rfl).2 _ rfl _ rfl
        rw [show f 48 = _ from hJ.vals 48 (hdep ⟨48, .data⟩ (by simp) rfl).1 (.bool true) (by rw [hT]; rfl)] at q100
        have q101 := (hdep ⟨49, .data⟩ (by simp) rfl).2 _ rfl _ rfl
        rw [show f 49 = _ from hJ.vals 49 (hdep ⟨49, .data⟩ (by simp) rfl).1 (.bool true) (by rw [hT]; rfl)] at q101
        rw [Array.getD_eq_getD_getElem?] at q100
        rw [Array.getD_eq_getD_getElem?] at q101
        clear hsz hdep hout hlat
        go_simp
        exact hK _ _ (⟨hJ.next (by decide) (by decide) (by decide) (by decide) (Ex.refl _) (fun x hx => by rw [hT] at hx; first | exact Option.some.inj hx | simpa using hx), hC.step rfl hcl⟩)
      · have hcl := fun e he hb => (hdep e he hb).1
        rw [if_pos (by rfl)]
        intro K hK
        have q102 := (hdep ⟨50, .data⟩ (by simp) rfl).2 _ rfl _ rfl
        rw [show f 50 = _ from hJ.vals 50 (hdep ⟨50, .data⟩ (by simp) rfl).1 (.bool true) (by rw [hT]; rfl)] at q102
        rw [Array.getD_eq_getD_getElem?] at q102
        clear hsz hdep hout hlat
        go_simp
        exact hK _ _ (⟨hJ.next (by decide) (by decide) (by decide) (by decide) (Ex.refl _) (fun x hx => by rw [hT] at hx; first | exact Option.some.inj hx | simpa using hx), hC.step rfl hcl⟩)
    · intro listed f w6 hall hJC
      obtain ⟨hJ, _⟩ := hJC
      have f0 : f 0 = digV C := hJ.vals 0 (hall 0 (by simp)) _ (by rw [hT]; rfl)
      have f1 : f 1 = LV ul pl := hJ.vals 1 (hall 1 (by simp)) _ (by rw [hT]; rfl)
      have f2 : f 2 = LV un pn := hJ.vals 2 (hall 2 (by simp)) _ (by rw [hT]; rfl)
      have f3 : f 3 = wv := hJ.vals 3 (hall 3 (by simp)) _ (by rw [hT]; rfl)
      have f4 : f 4 = .bool true := hJ.vals 4 (hall 4 (by simp)) _ (by rw [hT]; rfl)
      have f5 : f 5 = .bool true := hJ.vals 5 (hall 5 (by simp)) _ (by rw [hT]; rfl)
      have f6 : f 6 = digV C := hJ.vals 6 (hall 6 (by simp)) _ (by rw [hT]; rfl)
      have f7 : f 7 = LV ul pl := hJ.vals 7 (hall 7 (by simp)) _ (by rw [hT]; rfl)
      have f8 : f 8 = LV un pn := hJ.vals 8 (hall 8 (by simp)) _ (by rw [hT]; rfl)
      have f9 : f 9 = wv := hJ.vals 9 (hall 9 (by simp)) _ (by rw [hT]; rfl)
      have f10 : f 10 = wv := hJ.vals 10 (hall 10 (by simp)) _ (by rw [hT]; rfl)
      have f12 : f 12 = .bool true := hJ.vals 12 (hall 12 (by simp)) _ (by rw [hT]; rfl)
      have f13 : f 13 = .bool true := hJ.vals 13 (hall 13 (by simp)) _ (by rw [hT]; rfl)
      have f14 : f 14 = .bool true := hJ.vals 14 (hall 14 (by simp)) _ (by rw [hT]; rfl)
      have f15 : f 15 = digV C := hJ.vals 15 (hall 15 (by simp)) _ (by rw [hT]; rfl)
      have f16 : f 16 = LV ul pl := hJ.vals 16 (hall 16 (by simp)) _ (by rw [hT]; rfl)
      have f17 : f 17 = LV un pn := hJ.vals 17 (hall 17 (by simp)) _ (by rw [hT]; rfl)
      have f19 : f 19 = mv := hJ.vals 19 (hall 19 (by simp)) _ (by rw [hT]; rfl)
      have f21 : f 21 = wv := hJ.vals 21 (hall 21 (by simp)) _ (by rw [hT]; rfl)
      have f23 : f 23 = .bool true := hJ.vals 23 (hall 23 (by simp)) _ (by rw [hT]; rfl)
      have f24 : f 24 = .bool true := hJ.vals 24 (hall 24 (by simp)) _ (by rw [hT]; rfl)
      have f25 : f 25 = .bool true := hJ.vals 25 (hall 25 (by simp)) _ (by rw [hT]; rfl)
      have f26 : f 26 = digV C := hJ.vals 26 (hall 26 (by simp)) _ (by rw [hT]; rfl)
      have f27 : f 27 = LV ur pr := hJ.vals 27 (hall 27 (by simp)) _ (by rw [hT]; rfl)
      have f28 : f 28 = LV un pn := hJ.vals 28 (hall 28 (by simp)) _ (by rw [hT]; rfl)
      have f29 : f 29 = wv := hJ.vals 29 (hall 29 (by simp)) _ (by rw [hT]; rfl)
      have f30 : f 30 = .bool true := hJ.vals 30 (hall 30 (by simp)) _ (by rw [hT]; rfl)
      have f31 : f 31 = .bool true := hJ.vals 31 (hall 31 (by simp)) _ (by rw [hT]; rfl)
      have f32 : f 32 = .bool true := hJ.vals 32 (hall 32 (by simp)) _ (by rw [hT]; rfl)
      have f33 : f 33 = digV C := hJ.vals 33 (hall 33 (by simp)) _ (by rw [hT]; rfl)
      have f34 : f 34 = LV ul pl := hJ.vals 34 (hall 34 (by simp)) _ (by rw [hT]; rfl)
      have f35 : f 35 = LV ur pr := hJ.vals 35 (hall 35 (by simp)) _ (by rw [hT]; rfl)
      have f36 : f 36 = wv := hJ.vals 36 (hall 36 (by simp)) _ (by rw [hT]; rfl)
      have f37 : f 37 = .bool true := hJ.vals 37 (hall 37 (by simp)) _ (by rw [hT]; rfl)
      have f38 : f 38 = .bool true := hJ.vals 38 (hall 38 (by simp)) _ (by rw [hT]; rfl)
      have f39 : f 39 = .bool true := hJ.vals 39 (hall 39 (by simp)) _ (by rw [hT]; rfl)
      have f40 : f 40 = digV C := hJ.vals 40 (hall 40 (by simp)) _ (by rw [hT]; rfl)
      have f41 : f 41 = .int .i64 who := hJ.vals 41 (hall 41 (by simp)) _ (by rw [hT]; rfl)
      have f42 : f 42 = digV (keyL C who) := hJ.vals 42 (hall 42 (by simp)) _ (by rw [hT]; rfl)
      have f43 : f 43 = digV C := hJ.vals 43 (hall 43 (by simp)) _ (by rw [hT]; rfl)
      have f44 : f 44 = .int .i64 who := hJ.vals 44 (hall 44 (by simp)) _ (by rw [hT]; rfl)
      have f45 : f 45 = digV (keyL C who) := hJ.vals 45 (hall 45 (by simp)) _ (by rw [hT]; rfl)
      have f46 : f 46 = .bool true := hJ.vals 46 (hall 46 (by simp)) _ (by rw [hT]; rfl)
      have f47 : f 47 = .bool true := hJ.vals 47 (hall 47 (by simp)) _ (by rw [hT]; rfl)
      have f48 : f 48 = .bool true := hJ.vals 48 (hall 48 (by simp)) _ (by rw [hT]; rfl)
      have f49 : f 49 = .bool true := hJ.vals 49 (hall 49 (by simp)) _ (by rw [hT]; rfl)
      have f50 : f 50 = .bool true := hJ.vals 50 (hall 50 (by simp)) _ (by rw [hT]; rfl)
      have f51 : f 51 = .bool true := hJ.vals 51 (hall 51 (by simp)) _ (by rw [hT]; rfl)
      have xw := hJ.ext
      simp only [putAll, Act.put, List.setIfInBounds_toArray, List.set_cons_zero, List.set_cons_succ, Nat.zero_add, Nat.reduceAdd]
      rw [f0, f1, f2, f3, f4, f5, f6, f7, f8, f9, f10, f12, f13, f14, f15, f16, f17, f19, f21, f23, f24, f25, f26, f27, f28, f29, f30, f31, f32, f33, f34, f35, f36, f37, f38, f39, f40, f41, f42, f43, f44, f45, f46, f47, f48, f49, f50, f51]
      clear f0 f1 f2 f3 f4 f5 f6 f7 f8 f9 f10 f12 f13 f14 f15 f16 f17 f19 f21 f23 f24 f25 f26 f27 f28 f29 f30 f31 f32 f33 f34 f35 f36 f37 f38 f39 f40 f41 f42 f43 f44 f45 f46 f47 f48 f49 f50 f51 hJ hall hT
      generalize f 11 = y11
      generalize f 18 = y18
      generalize f 20 = y20
      generalize f 22 = y22
      replace BW := Lib.hid (Ex.trans BW.out xw)
      clear xw
      go_wp2_with (first | (with_reducible refine Sm.stop_load59 ?_) | (with_reducible refine Sm.stop_store59 ?_) | (with_reducible refine stop_load45 ?_) | (with_reducible refine stop_store45 ?_))
      go_ret
      exact ⟨rfl, BW.out⟩
end Go.Proofs.Ytgoiidpcdifojaa
namespace Go.Proofs.Ytgoiidpcdifojaa
open Go.ChangeShapes Go.WideShapes Go.ChangeAt Go.RowKit Go.Deep
theorem Try.cells42 : Try.prog.cellsOf 42 = 1 := by kernel_rfl
theorem Try.cells43 : Try.prog.cellsOf 43 = 1 := by kernel_rfl
theorem Try.cells45 : Try.prog.cellsOf 45 = 2 := by kernel_rfl
theorem Try.cells3 : Try.prog.cellsOf 3 = 1 := by kernel_rfl
theorem Try.cells88 : Try.prog.cellsOf 88 = 17 := by kernel_rfl
theorem cut2 {α : Type} (L : List α) (h : L.length = 2) : L = L.take 1 ++ (L.drop 1).take 1 := by
  match L, h with
  | [a, b], _ => rfl
def ListIn (W : World) (v : Value) : Prop := ∃ (u : Int) (p : Pt), v = LV u p ∧ 0 ≤ u ∧ u < 18446744073709551616 ∧ p.In W W.heap.size ∧ p.l.length ≤ 9223372036854775807
set_option maxRecDepth 100000 in
theorem open_list {H : Type} (enc : TypeId × Value → H) (W : World) (v : Value) {d : DataW H} {ps : List MemPlace} (base : Nat) (hval : Value.okWide Try.prog W .any base 45 v) (h : DataW.Trod enc Try.prog W 0 (fun _ => true) true 45 v d ps) : ListIn W v := by
  obtain ⟨m, hm⟩ := h
  obtain ⟨cs, rfl, hsz⟩ := okWide_struct Try.underlying45 hval
  obtain ⟨xs, n, _, _, hl, hlen, hf⟩ := DataW.trod_struct Try.underlying45 hm
  have f0 := hf 0 ⟨ "Version", 42, 0, false, "", "", 0⟩ rfl
  have f1 := hf 1 ⟨ "Members", 43, 1, false, "", "", 8⟩ rfl
  match xs, hlen with
  | [y0, y1], _ =>
    have f0 : DataW.trod enc Try.prog W 0 (fun _ => true) true n 42 (((Value.agg cs).cells.toList.drop 0).take (Try.prog.cellsOf 42)) = some y0 := f0
    have f1 : DataW.trod enc Try.prog W 0 (fun _ => true) true n 43 (((Value.agg cs).cells.toList.drop 1).take (Try.prog.cellsOf 43)) = some y1 := f1
    rw [Try.cells42] at f0
    rw [Try.cells43] at f1
    rw [Try.cells45] at hl
    have hL : (Value.agg cs).cells.toList = cs.toList := by simp [Value.cells]
    rw [hL] at f0 f1 hl
    obtain ⟨u, g0, _, w0⟩ := DataW.trod_int Try.underlying42 f0
    have hu : 0 ≤ u ∧ u < 18446744073709551616 := by
      simp [Lit.wf, IntKind.min, IntKind.max, IntKind.signed, IntKind.bits] at w0
      omega
    have hc := cut2 cs.toList hl
    rw [List.drop_zero] at g0
    have key : ∀ p : Pt, (cs.toList.drop 1).take 1 = [p.V] → Value.agg cs = LV u p := fun p hp => by
      unfold LV
      congr 1
      apply Array.ext'
      rw [hc, g0, hp]; rfl
    rcases open_ints Try.underlying43 Try.underlying3 (by kernel_rfl) f1 with ⟨hcs, _⟩ | ⟨x, l, c, zs, hcs, _, hl1, hm1, hz, _, hcell, hwz⟩
    · exact ⟨u, nilP, key nilP hcs, hu.1, hu.2, nil_in W, Nat.zero_le _⟩
    · simp only [if_true] at hz
      have hzl : (zs.take l).length = l := by rw [List.length_take]; omega
      refine ⟨u, ⟨some x, c, zs.take l⟩, key _ (by rw [hcs]; unfold Pt.V; rw [hzl]), hu.1, hu.2, ⟨by show (zs.take l).length ≤ c; omega, (fun h => by cases h), fun h0 => ?_⟩, ?_⟩
      · have h0 : 0 < l := by have h1 : 0 < (zs.take l).length := h0; omega
        obtain ⟨b, off, spot⟩ := x
        have hc0 := hcell 0 (by omega)
        have hspot : spot = none := by simpa [Addr.add] using World.cell?_spot hc0
        subst hspot
        have hlt : b < W.heap.size := by
          have := World.block_lt_of_cell? W _ hc0
          simpa [Addr.add] using this
        refine ⟨b, off, rfl, hlt, fun i hi => ?_⟩
        have hi : i < l := by have h1 : i < (zs.take l).length := hi; omega
        have h1 := hcell i (by omega)
        rw [Addr.add_lit] at h1
        rw [h1]
        simp [List.getD, List.getElem?_take, hi]
      · show (zs.take l).length ≤ _
        rw [hzl]
        have h2 := Nat.le_trans hl1 hm1
        unfold maxLen at h2
        omega
def VotesIn (W : World) (v : Value) : Prop := ∃ q : Vp, v = q.V ∧ q.In W W.heap.size ∧ q.l.length ≤ 9223372036854775807
set_option maxRecDepth 100000 in
theorem vote_cells {H : Type} {enc : TypeId × Value → H} {W : World} {n : Nat} {cs : List Value} {x : DataW H × List MemPlace} (hl : cs.length = 17) (h : DataW.trod enc Try.prog W 0 (fun _ => true) true n 88 cs = some x) : ∃ z : Int × List UInt8, z.2.length = 16 ∧ cs = voC z := by
  obtain ⟨xs, k, _, _, _, hlen, hf⟩ := DataW.trod_struct under88 h
  have hfs : (Try.prog.fieldsOf 88).toList = fields88 := fields88_is
  have g0 : (Try.prog.fieldsOf 88)[0]? = some ⟨ "Member", 3, 0, false, "", "", 0⟩ := by rw [← Array.getElem?_toList, hfs]; rfl
  have g1 : (Try.prog.fieldsOf 88)[1]? = some ⟨ "Mark", 59, 1, false, "", "", 8⟩ := by rw [← Array.getElem?_toList, hfs]; rfl
  have hn : xs.length = 2 := by rw [hlen, ← Array.length_toList, hfs]; rfl
  match xs, hn with
  | [y0, y1], _ =>
    have f0 : DataW.trod enc Try.prog W 0 (fun _ => true) true k 3 ((cs.drop 0).take (Try.prog.cellsOf 3)) = some y0 := hf 0 _ g0
    have f1 : DataW.trod enc Try.prog W 0 (fun _ => true) true k 59 ((cs.drop 1).take (Try.prog.cellsOf 59)) = some y1 := hf 1 _ g1
    rw [Try.cells3] at f0
    rw [Try.cells59] at f1
    obtain ⟨m, e0, _, _⟩ := DataW.trod_int Try.underlying3 f0
    obtain ⟨l, hl16, e1⟩ := Sm.open_row Try.underlying59 Try.underlying5 Sm.Try.cellsU8 Sm.Try.cellsDig f1
    refine ⟨(m, l), hl16, ?_⟩
    have h2 : (cs.drop 1).take 16 = cs.drop 1 := List.take_of_length_le (by rw [List.length_drop]; omega)
    rw [h2] at e1
    rw [List.drop_zero] at e0
    unfold voC
    rw [← e1]
    have : cs = cs.take 1 ++ cs.drop 1 := (List.take_append_drop 1 cs).symm
    rw [this, e0]; simp
set_option maxRecDepth 100000 in
theorem open_votes {H : Type} (enc : TypeId × Value → H) (W : World) (v : Value) {d : DataW H} {ps : List MemPlace} (base : Nat) (hval : Value.okWide Try.prog W .any base 61 v) (h : DataW.Trod enc Try.prog W 0 (fun _ => true) true 61 v d ps) : VotesIn W v := by
  obtain ⟨a1, len1, cap1, rfl⟩ := okWide_slice Try.underlying61 hval
  obtain ⟨fuel, hf⟩ := h
  rcases open_slice Try.underlying61 hf with ⟨hcs, hx⟩ | ⟨a, len, cap, m, n, D, Pl, hcs, hb, hl, hm, hmm, hx, hi⟩
  · simp [Value.cells] at hcs
    obtain ⟨rfl, rfl, rfl⟩ := hcs
    exact ⟨⟨none, 0, []⟩, rfl, ⟨Nat.le_refl _, fun _ => rfl, (fun i x h => by simp at h), fun h => absurd h (Nat.lt_irrefl 0)⟩, Nat.zero_le _⟩
  · simp [Value.cells] at hcs
    obtain ⟨rfl, rfl, rfl⟩ := hcs
    simp only [if_true] at hmm
    have key : ∀ i : Fin len1, ∃ z : Int × List UInt8, z.2.length = 16 ∧ ∀ j u, (voC z)[j]? = some u → W.cell? ((a.add (i.1 * 17)).add j) = some u := fun i => by
      obtain ⟨cs', hc, ht'⟩ := hi i.1 (by have := i.2; omega)
      rw [Try.cells88] at hc
      obtain ⟨_, hcl, hat⟩ := World.cells?_some hc
      obtain ⟨z, hz, e⟩ := vote_cells hcl ht'
      refine ⟨z, hz, fun j u hu => ?_⟩
      rw [← e] at hu
      have hj : j < 17 := by have := (List.getElem?_eq_some_iff.1 hu).1; omega
      rw [hat j hj]; exact hu
    obtain ⟨f, hff⟩ := Classical.axiomOfChoice key
    have hget : ∀ (i : Nat) (x : Int × List UInt8), (List.ofFn f)[i]? = some x → ∃ hi : i < len1, x = f ⟨i, hi⟩ := fun i x hx => by
      have hlt : i < len1 := by have := (List.getElem?_eq_some_iff.1 hx).1; simpa using this
      refine ⟨hlt, ?_⟩
      rw [List.getElem?_ofFn, dif_pos hlt] at hx
      exact (Option.some.inj hx).symm
    refine ⟨⟨some a, cap1, List.ofFn f⟩, by unfold Vp.V; simp, ⟨by simpa using hl, (fun h => by cases h), fun i x hx => ?_, fun h0 => ?_⟩, by have := Nat.le_trans hl hm; unfold maxLen at this; simpa using this⟩
    · obtain ⟨h1, rfl⟩ := hget i x hx
      exact (hff ⟨i, h1⟩).1
    · have hpos : 0 < len1 := by have h1 : 0 < (List.ofFn f).length := h0; rwa [List.length_ofFn] at h1
      obtain ⟨ab, ao, spot⟩ := a
      have hc0 := (hff ⟨0, hpos⟩).2 0 (.int .i64 (f ⟨0, hpos⟩).1) rfl
      have hspot : spot = none := by simpa [Addr.add] using World.cell?_spot hc0
      subst hspot
      refine ⟨ab, ao, rfl, by have := World.block_lt_of_cell? W _ hc0; simpa [Addr.add] using this, fun i x hx j u hu => ?_⟩
      obtain ⟨h1, rfl⟩ := hget i x hx
      have := (hff ⟨i, h1⟩).2 j u hu
      rw [Addr.add_lit, Addr.add_lit] at this
      rw [← this, Nat.mul_comm]
theorem endorseTells_law (v0 : Value) (a b c d v : Int) (v6 v7 : Value) (w : World) (h0 : ∃ l : List UInt8, l.length = 16 ∧ v0 = Sm.digV l) (_ : (Lit.int .i64 a).wf = true) (_ : (Lit.int .i64 b).wf = true) (_ : (Lit.int .i64 c).wf = true) (_ : (Lit.int .i64 d).wf = true) (hv : (Lit.int .u64 v).wf = true) (h6 : ListIn w v6) (h7 : VotesIn w v7) :
    Calls Try.prog 11 #[v0, .int .i64 a, .int .i64 b, .int .i64 c, .int .i64 d, .int .u64 v, v6, v7] w fun e w' => e = .returned (.bool true) ∧ Below w.heap.size w w' := by
  obtain ⟨C, hC, rfl⟩ := h0
  obtain ⟨u, p, rfl, hu0, hu1, hp, hpL⟩ := h6
  obtain ⟨q, rfl, hq, hqL⟩ := h7
  simp [Lit.wf, IntKind.min, IntKind.max, IntKind.signed, IntKind.bits] at hv
  exact tells15_law C hC a b c d v u (by omega) (by omega) hu0 hu1 p q w hp hpL hq hqL
end Go.Proofs.Ytgoiidpcdifojaa
