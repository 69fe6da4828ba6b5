/- Di -/
import Derived.Test.YtopamplmpfndlaaBbx
set_option maxRecDepth 100000
set_option maxHeartbeats 16000000
namespace Go.Proofs.Ytopamplmpfndlaa.Cl
open Go.RowKit
theorem Akp.ext {w w' : World} {ad : Option Addr} {cap : Nat} {l : List Ak} (h : Akp w ad cap l) (k : Ex w w') : Akp w' ad cap l :=
 ⟨h.le, h.nil, fun i x hx => (h.ins i x hx).ext k, fun h0 => by
  obtain ⟨a, o, e, ha, hc⟩ := h.read h0
  exact ⟨a, o, e, Nat.lt_of_lt_of_le ha k.size, fun i x hx j u hu => (Below.cell (p := ⟨a, o + i * 30 + j, none⟩) k ha).trans (hc i x hx j u hu)⟩⟩
theorem Akp.none (w : World) : Akp w none 0 [] := ⟨Nat.le_refl _, fun _ => rfl, fun i x hx => by simp at hx, fun h => absurd h (Nat.lt_irrefl 0)⟩
theorem plays22_any (n : Int) (hn9 : -9223372036854775808 ≤ n ∧ n ≤ 9223372036854775807) (k : List UInt8) (hk : k.length = 16) (ad : Option Addr) (cap : Nat) (l : List Ak) (hL : l.length ≤ 9223372036854775807) (w : World) (hin : Akp w ad cap l) : Calls Try.prog 4 #[.int .i64 n, digV k, .slice ad l.length cap] w fun e w' => e = .returned (.bool true) ∧ Ex w w' := by
 obtain ⟨ds, hds⟩ : ∃ ds, ds = (Lib.byteCells k).toArray := ⟨_, rfl⟩
 obtain ⟨lm, hlm⟩ : ∃ m, m = l.length := ⟨_, rfl⟩
 have D0 : Hid (Bk (w.alloc (.cells ds 36)) w.heap.size 36 (Lib.byteCells k).toArray) := Hi (by rw [← hds]; exact Bk.new rfl _ _)
 have BW : Hid (Ex w (w.alloc (.cells ds 36))) := Hi (Ex.alloc _ _)
 have HK := Hi hk
 have HIN := Hi hin
 have LM := Hi hlm
 have HL := Hi hL
 have HN := Hi hn9
 rw [show (Calls Try.prog 4 #[.int .i64 n, digV k, .slice ad l.length cap] w) = (Calls Try.prog 4 #[.int .i64 n, .agg ds, .slice ad lm cap] w) by rw [hds, hlm]; rfl]
 clear hds hk hin hlm hL hn9
 go_enter Try.func4, Try.ntmps4
 go_wp2_with fail
 generalize (w.alloc (.cells ds 36)) = wz at *
 obtain ⟨g, hg⟩ : ∃ i, i = w.heap.size := ⟨_, rfl⟩
 rw [← hg] at D0 ⊢
 clear hg
 have hS0 : ∀ (listed : Array Bool) (f : Nat → Value), (∀ i, listed.getD i false = false) → (fun (_ : Array Bool) (_ : Nat → Value) (W : World) => Ex wz W) listed f wz.drew := fun _ _ _ => ex_drewN wz 1
 obtain ⟨T, hT⟩ : ∃ T : List (Value → Prop), T = [(fun zz => zz = .int .i64 n), (fun zz => ∃ m : Int, zz = .int .i64 m ∧ 0 ≤ m ∧ m ≤ 3), (fun zz => zz = digV k), (fun zz => zz = .slice ad lm cap), (fun zz => zz = .bool true), (fun zz => zz = .bool true), (fun zz => zz = .int .i64 n), (fun zz => zz = digV k), (fun zz => zz = .bool true), (fun zz => zz = .bool true), (fun zz => zz = .bool true), (fun zz => zz = .bool true), (fun zz => zz = .bool true), (fun zz => zz = .bool true)] := ⟨_, rfl⟩
 refine wp_region_gen (JS T ([] : List (Nat × Nat)) (fun (_ : Array Bool) (_ : Nat → Value) (W : World) => Ex wz W)) (by kernel_rfl) (by kernel_rfl) (by kernel_rfl) (fitB_spec (by kernel_rfl)) (fun listed f h => JS.start listed f h (hS0 listed f h)) ?_ ?_
 ·intro i o ho
  have hi : i < 14 := (Array.getElem?_eq_some_iff.1 ho).1
  have hi' : i = 0 ∨ i = 1 ∨ i = 2 ∨ i = 3 ∨ i = 4 ∨ i = 5 ∨ i = 6 ∨ i = 7 ∨ i = 8 ∨ i = 9 ∨ i = 10 ∨ i = 11 ∨ i = 12 ∨ i = 13 := by omega
  clear hi
  rcases hi' with rfl | rfl | rfl | rfl | rfl | rfl | rfl | rfl | rfl | rfl | rfl | rfl | rfl | rfl
  all_goals (simp only [List.getElem?_toArray, List.getElem?_cons_zero, List.getElem?_cons_succ, Option.some.injEq] at ho; subst ho; intro listed f a wy hJ hsz hls hun hdep hout hlat; first | (rw [if_pos (by rfl)]; intro K hK) | skip)
  ·have q0 := hout 0 ob
   exact wp_mw _ rfl q0 (hK _ _ (hJ.nx hls hT rfl rfl (Ex.trans hJ.st (Ex.refl _)) nh))
  ·have q7 := hJ.iq hT (hdep ⟨0, .data⟩ (by simp) rfl) rfl _ rfl _ rfl
   clear hsz hdep hout hlat
   go_simp
   refine (within_any n 0 3 HN.out (by decide) (by decide) (by decide) wy).mono ?_
   rintro e w4 ⟨m9, rfl, lo, hi, rfl⟩
   exact hK _ _ (hJ.nx hls hT rfl (by exact ⟨m9, rfl, lo, hi⟩) (Ex.trans hJ.st (Ex.refl _)) nh)
  ·have q4 := hout 4 ob
   exact ld_dgb (.tmp 4) g k rfl q4 HK.out (D0.out.ext hJ.st) (hK _ _ (hJ.nx hls hT rfl rfl (Ex.trans hJ.st (Ex.refl _)) nh))
  ·have q2 := hout 2 ob
   exact wp_mw _ rfl q2 (hK _ _ (hJ.nx hls hT rfl rfl (Ex.trans hJ.st (Ex.refl _)) nh))
  ·have dd8 := hdep ⟨1, .data⟩ (by simp) rfl
   have q8 := dd8.2 _ rfl _ rfl
   have h8 := hJ.vals 1 dd8.1
   rw [hT] at h8
   have h8 : (fun zz => ∃ m : Int, zz = .int .i64 m ∧ 0 ≤ m ∧ m ≤ 3) (f 1) := h8
   obtain ⟨m8, e8, lo8, hi8⟩ := h8
   rw [e8] at q8
   clear e8
   clear dd8
   have q9 := hJ.is hT (hdep ⟨2, .data⟩ (by simp) rfl) rfl _ rfl _ rfl
   have q10 := hJ.is hT (hdep ⟨3, .data⟩ (by simp) rfl) rfl _ rfl _ rfl
   rw [gd9] at q8
   rw [gd9] at q9
   rw [gd9] at q10
   clear hsz hdep hout hlat
   go_simp
   have hp9 := play22_any m8 (by omega) k HK.out ad cap l HL.out wy (HIN.out.ext (BW.out.trans hJ.st))
   rw [← LM.out] at hp9
   refine hp9.mono ?_
   rintro e w4 ⟨rfl, x4⟩
   exact hK _ _ (hJ.nx hls hT rfl rfl (Ex.trans hJ.st x4) nh)
  ·have q11 := hJ.is hT (hdep ⟨4, .data⟩ (by simp) rfl) rfl _ rfl _ rfl
   exact wp_mw _ rfl q11 (hK _ _ (hJ.nx hls hT rfl rfl (Ex.trans hJ.st (Ex.refl _)) nh))
  ·have kg := hJ.is hT (hdep ⟨5, .guard⟩ (by simp) rfl) rfl _ rfl _ rfl
   rw [if_pos (wanted_of rfl rfl rfl kg)]
   clear kg
   intro K hK
   have q0 := hout 0 ob
   exact wp_mw _ rfl q0 (hK _ _ (hJ.nx hls hT rfl rfl (Ex.trans hJ.st (Ex.refl _)) nh))
  ·have kg := hJ.is hT (hdep ⟨5, .guard⟩ (by simp) rfl) rfl _ rfl _ rfl
   rw [if_pos (wanted_of rfl rfl rfl kg)]
   clear kg
   intro K hK
   have q4 := hout 4 ob
   exact ld_dgb (.tmp 4) g k rfl q4 HK.out (D0.out.ext hJ.st) (hK _ _ (hJ.nx hls hT rfl rfl (Ex.trans hJ.st (Ex.refl _)) nh))
  ·have kg := hJ.is hT (hdep ⟨5, .guard⟩ (by simp) rfl) rfl _ rfl _ rfl
   rw [if_pos (wanted_of rfl rfl rfl kg)]
   clear kg
   intro K hK
   have q13 := hJ.iq hT (hdep ⟨6, .data⟩ (by simp) rfl) rfl _ rfl _ rfl
   have q14 := hJ.iq hT (hdep ⟨7, .data⟩ (by simp) rfl) rfl _ rfl _ rfl
   clear hsz hdep hout hlat
   go_simp
   refine (play22_any n HN.out k HK.out none 0 [] (by decide) wy (Akp.none _)).mono ?_
   rintro e w4 ⟨rfl, x4⟩
   exact hK _ _ (hJ.nx hls hT rfl rfl (Ex.trans hJ.st x4) nh)
  ·have q12 := hJ.iq hT (hdep ⟨5, .data⟩ (by simp) rfl) rfl _ rfl _ rfl
   have q15 := hJ.iq hT (hdep ⟨8, .data⟩ (by simp) rfl) rfl _ rfl _ rfl
   clear hsz hdep hout hlat
   go_simp
   exact hK _ _ (hJ.na hls hT (Ex.trans hJ.st (Ex.refl _)))
  ·have q16 := hJ.is hT (hdep ⟨9, .data⟩ (by simp) rfl) rfl _ rfl _ rfl
   exact wp_mw _ rfl q16 (hK _ _ (hJ.nx hls hT rfl rfl (Ex.trans hJ.st (Ex.refl _)) nh))
  ·have kg := hJ.is hT (hdep ⟨10, .guard⟩ (by simp) rfl) rfl _ rfl _ rfl
   rw [if_pos (wanted_of rfl rfl rfl kg)]
   clear kg
   intro K hK
   clear hsz hdep hout hlat
   go_simp
   refine (known22_any wy).mono ?_
   rintro e w4 ⟨rfl, x4⟩
   exact hK _ _ (hJ.nx hls hT rfl rfl (Ex.trans hJ.st x4) nh)
  ·have q17 := hJ.iq hT (hdep ⟨10, .data⟩ (by simp) rfl) rfl _ rfl _ rfl
   have q18 := hJ.iq hT (hdep ⟨11, .data⟩ (by simp) rfl) rfl _ rfl _ rfl
   clear hsz hdep hout hlat
   go_simp
   exact hK _ _ (hJ.na hls hT (Ex.trans hJ.st (Ex.refl _)))
  have q19 := hJ.iq hT (hdep ⟨12, .data⟩ (by simp) rfl) rfl _ rfl _ rfl
  clear hsz hdep hout hlat
  go_simp
  exact hK _ _ (hJ.na hls hT (Ex.trans hJ.st (Ex.refl _)))
 intro listed f wy hall hJ
 have f13 := hJ.fa hT (hall 13 (by simp)) rfl
 have hst := hJ.st
 simp only [putAll, Act.put, List.setIfInBounds_toArray, List.set_cons_zero, List.set_cons_succ, Nat.zero_add, Nat.reduceAdd]
 have x9 : Ex wz wy := hst
 clear hst hS0
 rw [f13]
 clear f13
 clear hJ hall hT
 generalize f 0 = y0
 generalize f 1 = y1
 generalize f 2 = y2
 generalize f 3 = y3
 generalize f 4 = y4
 generalize f 5 = y5
 generalize f 6 = y6
 generalize f 7 = y7
 generalize f 8 = y8
 generalize f 9 = y9
 generalize f 10 = y10
 generalize f 11 = y11
 generalize f 12 = y12
 replace BW := Hi (BW.out.trans x9)
 clear x9
 go_wp2_with fail
 go_ret
 exact ⟨rfl, BW.out⟩
theorem plays22_law (n : Int) (v1 v2 : Value) (w : World) (h0 : (Lit.int .i64 n).wf = true) (h1 : ∃ l : List UInt8, l.length = 16 ∧ v1 = digV l) (h2 : AkpRow w v2) :
  Calls Try.prog 4 #[.int .i64 n, v1, v2] w fun e w' => e = .returned (.bool true) ∧ Below w.heap.size w w' := by
 obtain ⟨kl, hk, rfl⟩ := h1
 obtain ⟨ad, cap, l, rfl, hin, hl⟩ := h2
 exact plays22_any n (wf_i64 h0) kl hk ad cap l hl w hin
end Go.Proofs.Ytopamplmpfndlaa.Cl
