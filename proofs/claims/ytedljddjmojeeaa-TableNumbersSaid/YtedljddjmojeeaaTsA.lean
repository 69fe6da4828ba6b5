/- play of chapter 12 walked -/
import Derived.Test.YtedljddjmojeeaaTs
namespace Go.Proofs.Ytedljddjmojeeaa
open Go.RowKit
set_option maxHeartbeats 4000000 in
set_option maxRecDepth 100000 in
theorem p12_A (w : World) (ad : Option Addr) (cap n : Nat) (l : List At) (D : Nat) (mv : Value) (rv : Value) (k : Nat) (vs : List Vt) (ms : List Vt) (y : Nat → Value) (wr : World) (hk : k ≤ n) (P : Hid (PS w wr D rv vs mv ms)) (hL : n ≤ 9223372036854775807) (hin : Atp.In ad cap l w) (hnl : n = l.length) (hk50 : k < 50) (A : At) (hA : l[k]? = some A) (hlt : k < n) (hkind : A.kind = 4) (h6 : ¬ A.v.id.tmod 7 = 6)  (Q0 : Exit → Act → World → Prop) (hexit : ∀ a' w'', p12I w ad cap n l D a' w'' → Q0 (.exit 0) a' w'') :
  Code.wp Try.prog p12Body (Exit.then (fun a' w'' => p12I w ad cap n l D a' w'' ∧ p12M n a' w'' < p12M n ⟨#[.slice ad n cap, y 1, .bool false, .pointer (some ⟨D, 0, none⟩), mv, .int .i64 k, y 6, y 7, y 8, y 9, y 10, y 11, y 12, y 13, y 14, y 15, y 16, y 17, y 18, y 19, y 20, y 21, y 22, y 23, y 24, y 25, y 26, y 27, y 28, y 29, y 30, y 31, y 32, y 33, y 34, y 35, y 36, y 37, y 38, y 39, y 40, y 41, y 42, y 43, y 44, y 45, y 46, y 47, y 48, y 49, y 50, y 51, y 52, y 53, y 54, y 55, y 56, y 57, y 58, y 59, y 60, y 61, y 62, y 63, y 64, y 65, y 66, y 67, y 68, y 69, y 70, y 71, y 72, y 73, y 74, y 75, y 76, y 77, y 78, y 79, y 80, y 81, y 82, y 83, y 84, y 85, y 86, y 87, y 88, y 89, y 90, y 91, y 92, y 93, y 94, y 95, y 96, y 97, y 98, y 99, y 100, y 101, y 102, y 103, y 104, y 105, y 106, y 107, y 108, y 109, y 110, y 111, y 112, y 113, y 114, y 115, y 116, y 117, y 118, y 119, y 120, y 121, y 122, y 123, y 124, y 125, y 126, y 127, y 128, y 129, y 130, y 131, y 132, y 133, y 134, y 135, y 136, y 137, y 138, y 139, y 140, y 141, y 142, y 143, y 144, y 145, y 146, y 147, y 148, y 149, y 150, y 151, y 152, y 153, y 154, y 155, y 156, y 157, y 158, y 159, y 160, y 161, y 162, y 163, y 164, y 165, y 166, y 167, y 168, y 169, y 170, y 171, y 172, y 173, y 174, y 175, y 176, y 177, y 178], []⟩ wr) Q0) ⟨#[.slice ad n cap, y 1, .bool false, .pointer (some ⟨D, 0, none⟩), mv, .int .i64 k, y 6, y 7, y 8, y 9, y 10, y 11, y 12, y 13, y 14, y 15, y 16, y 17, y 18, y 19, y 20, y 21, y 22, y 23, y 24, y 25, y 26, y 27, y 28, y 29, y 30, y 31, y 32, y 33, y 34, y 35, y 36, y 37, y 38, y 39, y 40, y 41, y 42, y 43, y 44, y 45, y 46, y 47, y 48, y 49, y 50, y 51, y 52, y 53, y 54, y 55, y 56, y 57, y 58, y 59, y 60, y 61, y 62, y 63, y 64, y 65, y 66, y 67, y 68, y 69, y 70, y 71, y 72, y 73, y 74, y 75, y 76, y 77, y 78, y 79, y 80, y 81, y 82, y 83, y 84, y 85, y 86, y 87, y 88, y 89, y 90, y 91, y 92, y 93, y 94, y 95, y 96, y 97, y 98, y 99, y 100, y 101, y 102, y 103, y 104, y 105, y 106, y 107, y 108, y 109, y 110, y 111, y 112, y 113, y 114, y 115, y 116, y 117, y 118, y 119, y 120, y 121, y 122, y 123, y 124, y 125, y 126, y 127, y 128, y 129, y 130, y 131, y 132, y 133, y 134, y 135, y 136, y 137, y 138, y 139, y 140, y 141, y 142, y 143, y 144, y 145, y 146, y 147, y 148, y 149, y 150, y 151, y 152, y 153, y 154, y 155, y 156, y 157, y 158, y 159, y 160, y 161, y 162, y 163, y 164, y 165, y 166, y 167, y 168, y 169, y 170, y 171, y 172, y 173, y 174, y 175, y 176, y 177, y 178], []⟩ wr := by
 conv => arg 2; whnf
 have HIN := Lib.hid hin
 have HNL := Lib.hid hnl
 clear hin hnl
 obtain ⟨aa, oa, rfl, haa, hra⟩ := HIN.out.read (by rw [← HNL.out]; omega)
 have HAR := Lib.hid (hra k A hA)
 have HAI := Lib.hid (HIN.out.ins k A hA)
 have HAA := Lib.hid haa
 clear hra haa hA
 obtain ⟨adm, capm, rfl, hmi, hmc⟩ := P.out.inn
 have HMC := Lib.hid hmc
 clear hmi hmc
 obtain ⟨N, hN⟩ : ∃ N, N = ms.length := ⟨_, rfl⟩
 have hN4 : N ≤ 4 := by rw [hN, ← P.out.len]; exact P.out.tb.len
 rw [← hN] at P ⊢
 have HN := Lib.hid hN
 clear hN
 have q0 : (0 : Int) ≤ (k : Int) := by omega
 have q1 : (k : Int) < (n : Int) := by omega
 have q2 : (k : Int) < 50 := by omega
 go_wp2_with (first | (with_reducible refine stop_load (t := 30) ?_) | (with_reducible refine stop_store (t := 30) ?_) | (with_reducible refine stop_load (t := 24) ?_) | (with_reducible refine stop_store (t := 24) ?_) | (with_reducible refine stop_load (t := 48) ?_) | (with_reducible refine stop_store (t := 48) ?_) | (with_reducible refine stop_load (t := 51) ?_) | (with_reducible refine stop_store (t := 51) ?_) | (with_reducible refine stop_build (t := 30) ?_) | (with_reducible refine stop_bs (t := 59) ?_) | (with_reducible refine stop_app ?_))
 (with_reducible refine ⟨?_⟩); (with_reducible refine at_any ?_ ?_); (focus go_simp); refine fun K0 hK => ld_at _ aa (oa + k * 52) A HAI.out.raw.ok rfl rfl (fun j u hu => (Below.cell (p := ⟨aa, oa + k * 52 + j, none⟩) P.out.ex HAA.out).trans (HAR.out j u hu)) (hK _ _ ?_)
 clear hK
 go_wp2_with (first | (with_reducible refine stop_load (t := 30) ?_) | (with_reducible refine stop_store (t := 30) ?_) | (with_reducible refine stop_load (t := 24) ?_) | (with_reducible refine stop_store (t := 24) ?_) | (with_reducible refine stop_load (t := 48) ?_) | (with_reducible refine stop_store (t := 48) ?_) | (with_reducible refine stop_load (t := 51) ?_) | (with_reducible refine stop_store (t := 51) ?_) | (with_reducible refine stop_build (t := 30) ?_) | (with_reducible refine stop_bs (t := 59) ?_) | (with_reducible refine stop_app ?_))
 (with_reducible refine ⟨?_⟩); (with_reducible refine at_any ?_ ?_); (focus go_simp); refine fun K0 hK => st_at _ _ wr.heap.size A HAI.out.raw.ok rfl rfl rfl (Bk.new rfl _ _) (by rfl) (fun w2 hd9 ho => hK _ _ ?_)
 clear hK
 have xx : Ex wr w2 := ho.below wr.heap.size (Nat.le_refl _) wr (Ex.alloc wr _)
 replace P := Lib.hid (P.out.ext xx)
 obtain ⟨g, hg⟩ : ∃ g, g = wr.heap.size := ⟨_, rfl⟩
 rw [← hg] at hd9 ⊢
 have GA : Hid (AB w2 g A) := Lib.hid ⟨hd9⟩
 clear xx ho hd9 hg
 obtain ⟨c9, hand, hc9⟩ := and_mask A.v.id 7 (by decide)
 obtain ⟨u, hu⟩ : ∃ u : UInt8, u.toNat = c9 := ⟨UInt8.ofNat c9, by rw [UInt8.toNat_ofNat']; exact Nat.mod_eq_of_lt (by omega)⟩
 rw [← hu] at hand hc9
 have hmask : bits BinOp.and IntKind.i64 A.v.id 7 % 256 = ((u.toNat : Nat) : Int) := by rw [show bits BinOp.and IntKind.i64 A.v.id 7 = ((u.toNat : Nat) : Int) from hand]; omega
 have HMK := Lib.hid hmask
 clear hu hand hc9 hmask
 go_wp2_with (first | (with_reducible refine stop_load (t := 30) ?_) | (with_reducible refine stop_store (t := 30) ?_) | (with_reducible refine stop_load (t := 24) ?_) | (with_reducible refine stop_store (t := 24) ?_) | (with_reducible refine stop_load (t := 48) ?_) | (with_reducible refine stop_store (t := 48) ?_) | (with_reducible refine stop_load (t := 51) ?_) | (with_reducible refine stop_store (t := 51) ?_) | (with_reducible refine stop_build (t := 30) ?_) | (with_reducible refine stop_bs (t := 59) ?_) | (with_reducible refine stop_app ?_))
 (with_reducible refine ⟨?_⟩); (with_reducible refine at_any ?_ ?_); (focus go_simp); refine fun K0 hK => ld_kv _ g 1 A.v rfl rfl GA.out.kv (hK _ _ ?_)
 clear hK
 obtain ⟨d0, d1, d9⟩ := GA.out.cells
 go_wp2_with (first | (with_reducible refine stop_load (t := 30) ?_) | (with_reducible refine stop_store (t := 30) ?_) | (with_reducible refine stop_load (t := 24) ?_) | (with_reducible refine stop_store (t := 24) ?_) | (with_reducible refine stop_load (t := 48) ?_) | (with_reducible refine stop_store (t := 48) ?_) | (with_reducible refine stop_load (t := 51) ?_) | (with_reducible refine stop_store (t := 51) ?_) | (with_reducible refine stop_build (t := 30) ?_) | (with_reducible refine stop_bs (t := 59) ?_) | (with_reducible refine stop_app ?_))
 rw [HMK.out]
 refine (kv_any A.v [u, 0, 0, 0] rfl w2 (HAI.out.v.ext P.out.ex)).mono ?_
 rintro e wz ⟨z, rfl, hzn, -, -, x3⟩
 have HZ := Lib.hid hzn
 replace GA := Lib.hid (GA.out.ext x3)
 replace P := Lib.hid (P.out.ext x3)
 clear hzn x3 d0 d1 d9 HMK
 go_wp2_with (first | (with_reducible refine stop_load (t := 30) ?_) | (with_reducible refine stop_store (t := 30) ?_) | (with_reducible refine stop_load (t := 24) ?_) | (with_reducible refine stop_store (t := 24) ?_) | (with_reducible refine stop_load (t := 48) ?_) | (with_reducible refine stop_store (t := 48) ?_) | (with_reducible refine stop_load (t := 51) ?_) | (with_reducible refine stop_store (t := 51) ?_) | (with_reducible refine stop_build (t := 30) ?_) | (with_reducible refine stop_bs (t := 59) ?_) | (with_reducible refine stop_app ?_))
 (with_reducible refine ⟨?_⟩); (with_reducible refine at_any ?_ ?_); (focus go_simp); refine fun K0 hK => st_v _ _ wz.heap.size z rfl rfl rfl HZ.out.ok (Bk.new rfl _ _) (by rfl) (fun wv hd ho => hK _ _ ?_)
 clear hK
 have xx : Ex wz wv := ho.below wz.heap.size (Nat.le_refl _) wz (Ex.alloc wz _)
 obtain ⟨gv, hgv⟩ : ∃ g, g = wz.heap.size := ⟨_, rfl⟩
 have HRG : Hid (rv.ownBlock ≠ some gv) := Lib.hid (fun e => by have := P.out.tb.row.own_lt e; omega)
 rw [← hgv] at hd ⊢
 obtain ⟨x, hx⟩ : ∃ x, x = z := ⟨_, rfl⟩
 rw [← hx] at hd
 have EX : Hid (EL w wv x) := Lib.hid (by rw [hx]; exact (HZ.out.ext xx).el)
 clear hx hgv
 replace GA := Lib.hid (GA.out.ext xx)
 replace P := Lib.hid (P.out.ext xx)
 have GV := Lib.hid hd
 clear hd ho xx HZ
 have d1 := GA.out.cells.2.1
 go_wp2_with (first | (with_reducible refine stop_load (t := 30) ?_) | (with_reducible refine stop_store (t := 30) ?_) | (with_reducible refine stop_load (t := 24) ?_) | (with_reducible refine stop_store (t := 24) ?_) | (with_reducible refine stop_load (t := 48) ?_) | (with_reducible refine stop_store (t := 48) ?_) | (with_reducible refine stop_load (t := 51) ?_) | (with_reducible refine stop_store (t := 51) ?_) | (with_reducible refine stop_build (t := 30) ?_) | (with_reducible refine stop_bs (t := 59) ?_) | (with_reducible refine stop_app ?_))
 go_loopw [8, 9] (fun kk j wr => ∃ (jn : Nat) (kn : Int), jn ≤ N ∧ j = .int .i64 jn ∧ kk = .int .i64 kn ∧ Hid (KS ms (idn x.id) jn kn) ∧ Hid (Ex wv wr)) (fun _ j _ => N - (intOf j).toNat)
 case atStart => exact ⟨0, -1, by omega, rfl, rfl, Lib.hid (Or.inl ⟨rfl, fun q hq => absurd hq (Nat.not_lt_zero q)⟩), Lib.hid (Ex.refl _)⟩
 case round =>
  obtain ⟨j, kn, hj, rfl, rfl, HK, BX⟩ := hrel
  by_cases hlj : j < N
  ·have r0 : (0 : Int) ≤ (j : Int) := by omega
   have r1 : (j : Int) < (N : Int) := by omega
   obtain ⟨y, hy⟩ : ∃ y, ms[j]? = some y := ⟨_, List.getElem?_eq_getElem (by rw [← HN.out]; omega)⟩
   obtain ⟨ad9, cap9, e9, hin9, _⟩ := P.out.inn
   rw [← HN.out] at e9
   cases e9
   obtain ⟨am, om, rfl, ham, hrm⟩ := hin9.read (by rw [← HN.out]; omega)
   have YR := Lib.hid (range_ex (hrm j y hy) BX.out ham)
   have HAM := Lib.hid (Nat.lt_of_lt_of_le ham BX.out.sz')
   have YO := Lib.hid (hin9.ok j y hy)
   have HFJ := Lib.hid (idF_at ms j y hy)
   obtain ⟨b, hb⟩ : ∃ b, b = decide (y.id = x.id) := ⟨_, rfl⟩
   have HB := Lib.hid hb
   clear hin9 ham hrm hy hb
   go_wp2_with (first | (with_reducible refine stop_load (t := 30) ?_) | (with_reducible refine stop_store (t := 30) ?_) | (with_reducible refine stop_load (t := 24) ?_) | (with_reducible refine stop_store (t := 24) ?_) | (with_reducible refine stop_load (t := 48) ?_) | (with_reducible refine stop_store (t := 48) ?_) | (with_reducible refine stop_load (t := 51) ?_) | (with_reducible refine stop_store (t := 51) ?_) | (with_reducible refine stop_build (t := 30) ?_) | (with_reducible refine stop_bs (t := 59) ?_) | (with_reducible refine stop_app ?_))
   obtain ⟨T, hT⟩ : ∃ T : List (Rw wr.heap.size), T = [.is (.slice (some ⟨am, om, none⟩) N capm), .is (.int .i64 j), .is (.pointer (some ⟨am, om + j * 42, none⟩)), .is (.pointer (some ⟨am, om + j * 42, none⟩)), .is (digV y.id), .is (.pointer (some ⟨gv, 0, none⟩)), .is (digV x.id), .is (.bool b)] := ⟨_, rfl⟩
   have HTY : T.map Rw.tys = ([[], [], [], [], [], [], [], []] : List (List Nat)) := by rw [hT]; rfl
   refine wp_region_gen (JW wr.heap.size wr [0] T ([[], [], [], [], [], [], [], []] : List (List Nat)) ([none, none, none, none, none, none, none, none] : List (Option Nat)) ([] : List (Nat × Nat)) 100000) (by kernel_rfl) (by kernel_rfl) (by kernel_rfl) (fitB_spec (by kernel_rfl)) (fun listed f h => JW.start (Nat.le_refl _) listed f h) ?_ ?_
   ·intro i o ho
    have hi : i < 8 := (Array.getElem?_eq_some_iff.1 ho).1
    have hi' : i = 0 ∨ i = 1 ∨ i = 2 ∨ i = 3 ∨ i = 4 ∨ i = 5 ∨ i = 6 ∨ i = 7 := by omega
    clear hi
    rcases hi' with rfl | rfl | rfl | rfl | rfl | rfl | rfl | rfl
    all_goals (simp only [List.getElem?_toArray, List.getElem?_cons_zero, List.getElem?_cons_succ, Option.some.injEq] at ho; subst ho; intro listed f a w3 hJ hsz hls hun hdep hout hlat)
    ·rw [if_pos (by rfl)]
     intro K hK
     have q4 := hout 4 (outB_spec (by kernel_rfl))
     have hord := no_ord 0 listed
     refine wp_mv _ rfl (hK _ _ ?_)
     rw [show a.eval (.tmp 4) = .slice (some ⟨am, om, none⟩) N capm from q4]
     exact hJ.plain HTY (by rw [hls]; decide) (Ex.refl _) (by rw [hT]; rfl) hord
    ·rw [if_pos (by rfl)]
     intro K hK
     have q9 := hout 9 (outB_spec (by kernel_rfl))
     have hord := no_ord 1 listed
     refine wp_mv _ rfl (hK _ _ ?_)
     rw [show a.eval (.tmp 9) = .int .i64 j from q9]
     exact hJ.plain HTY (by rw [hls]; decide) (Ex.refl _) (by rw [hT]; rfl) hord
    ·rw [if_pos (by rfl)]
     intro K hK
     have dd55 := hdep ⟨0, .data⟩ (by simp) rfl
     have q55 := dd55.2 _ rfl _ rfl
     have h55 := hJ.vals 0 dd55.1 no_c
     rw [hT] at h55
     rw [show f 0 = .slice (some ⟨am, om, none⟩) N capm from h55] at q55
     clear h55
     clear dd55
     have dd56 := hdep ⟨1, .data⟩ (by simp) rfl
     have q56 := dd56.2 _ rfl _ rfl
     have h56 := hJ.vals 1 dd56.1 no_c
     rw [hT] at h56
     rw [show f 1 = .int .i64 j from h56] at q56
     clear h56
     clear dd56
     have hord := no_ord 2 listed
     rw [Array.getD_eq_getD_getElem?] at q55
     rw [Array.getD_eq_getD_getElem?] at q56
     clear hsz hdep hout hlat
     go_simp
     exact hK _ _ (hJ.plain HTY (by rw [hls]; decide) (Ex.refl _) (by rw [hT]; first | rfl | exact int_eq (by omega) | exact int_eq (by rw [IntKind.wrap_i64]; omega)) hord)
    ·rw [if_pos (by rfl)]
     intro K hK
     have dd57 := hdep ⟨2, .data⟩ (by simp) rfl
     have q57 := dd57.2 _ rfl _ rfl
     have h57 := hJ.vals 2 dd57.1 no_c
     rw [hT] at h57
     rw [show f 2 = .pointer (some ⟨am, om + j * 42, none⟩) from h57] at q57
     clear h57
     clear dd57
     have hord := no_ord 3 listed
     rw [Array.getD_eq_getD_getElem?] at q57
     clear hsz hdep hout hlat
     go_simp
     exact hK _ _ (hJ.plain HTY (by rw [hls]; decide) (Ex.refl _) (by rw [hT]; first | rfl | exact int_eq (by omega) | exact int_eq (by rw [IntKind.wrap_i64]; omega)) hord)
    ·rw [if_pos (by rfl)]
     intro K hK
     have dd58 := hdep ⟨3, .data⟩ (by simp) rfl
     have q58 := dd58.2 _ rfl _ rfl
     have h58 := hJ.vals 3 dd58.1 no_c
     rw [hT] at h58
     rw [show f 3 = .pointer (some ⟨am, om + j * 42, none⟩) from h58] at q58
     clear h58
     clear dd58
     have hord := no_ord 4 listed
     exact ld_vidr (.tmp 58) am (om + j * 42) y YO.out rfl q58 (range_ex YR.out hJ.ext.below HAM.out) (hK _ _ (hJ.plain HTY (by rw [hls]; decide) (Ex.refl _) (by rw [hT]; rfl) hord))
    ·rw [if_pos (by rfl)]
     intro K hK
     have q7 := hout 7 (outB_spec (by kernel_rfl))
     have hord := no_ord 5 listed
     rw [Array.getD_eq_getD_getElem?] at q7
     clear hsz hdep hout hlat
     go_simp
     exact hK _ _ (hJ.plain HTY (by rw [hls]; decide) (Ex.refl _) (by rw [hT]; first | rfl | exact int_eq (by omega) | exact int_eq (by rw [IntKind.wrap_i64]; omega)) hord)
    ·rw [if_pos (by rfl)]
     intro K hK
     have dd60 := hdep ⟨5, .data⟩ (by simp) rfl
     have q60 := dd60.2 _ rfl _ rfl
     have h60 := hJ.vals 5 dd60.1 no_c
     rw [hT] at h60
     rw [show f 5 = .pointer (some ⟨gv, 0, none⟩) from h60] at q60
     clear h60
     clear dd60
     have hord := no_ord 6 listed
     exact ld_vid (.tmp 60) gv x rfl q60 (GV.out.ext (Ex.trans BX.out hJ.ext.below)) (hK _ _ (hJ.plain HTY (by rw [hls]; decide) (Ex.refl _) (by rw [hT]; rfl) hord))
    ·rw [if_pos (by rfl)]
     intro K hK
     have dd59 := hdep ⟨4, .data⟩ (by simp) rfl
     have q59 := dd59.2 _ rfl _ rfl
     have h59 := hJ.vals 4 dd59.1 no_c
     rw [hT] at h59
     rw [show f 4 = digV y.id from h59] at q59
     clear h59
     clear dd59
     have dd61 := hdep ⟨6, .data⟩ (by simp) rfl
     have q61 := dd61.2 _ rfl _ rfl
     have h61 := hJ.vals 6 dd61.1 no_c
     rw [hT] at h61
     rw [show f 6 = digV x.id from h61] at q61
     clear h61
     clear dd61
     have hord := no_ord 7 listed
     refine wp_eql_id _ _ _ rfl y.id x.id YO.out.idN GV.out.1.idN q59 q61 ?_
     rw [← HB.out]
     exact hK _ _ (hJ.plain HTY (by rw [hls]; decide) (Ex.refl _) (by rw [hT]; rfl) hord)
   ·intro listed f w3 hall hJ
    have f7 : f 7 = .bool b := by
     have h := hJ.vals 7 (hall 7 (by simp)) no_c
     rw [hT] at h; exact h
    have xk := hJ.ext
    simp only [putAll, Act.put, List.setIfInBounds_toArray, List.set_cons_zero, List.set_cons_succ, Nat.zero_add, Nat.reduceAdd]
    rw [f7]
    clear f7
    clear hJ hall hT HTY
    generalize f 0 = y0
    generalize f 1 = y1
    generalize f 2 = y2
    generalize f 3 = y3
    generalize f 4 = y4
    generalize f 5 = y5
    generalize f 6 = y6
    replace BX := Lib.hid (Ex.trans BX.out (show Ex wr w3 from xk.below))
    clear xk
    cases b
    ·have hne : idF ms j ≠ idn x.id := by
      rw [HFJ.out]; exact fun e => of_decide_eq_false HB.out.symm (idn_inj YO.out.idN GV.out.1.idN e)
     have HNE := Lib.hid hne
     clear hne
     go_wp2_with (first | (with_reducible refine stop_load (t := 30) ?_) | (with_reducible refine stop_store (t := 30) ?_) | (with_reducible refine stop_load (t := 24) ?_) | (with_reducible refine stop_store (t := 24) ?_) | (with_reducible refine stop_load (t := 48) ?_) | (with_reducible refine stop_store (t := 48) ?_) | (with_reducible refine stop_load (t := 51) ?_) | (with_reducible refine stop_store (t := 51) ?_) | (with_reducible refine stop_build (t := 30) ?_) | (with_reducible refine stop_bs (t := 59) ?_) | (with_reducible refine stop_app ?_))
     (first | (refine ⟨?_, ?measure⟩; (repeat apply Exists.intro); refine ⟨?rel, rfl⟩) | refine ⟨?rel, ?measure⟩)
     case rel => exact ⟨j + 1, kn, by omega, by go_num, rfl, Lib.hid (by
           rcases HK.out with ⟨h1, h2⟩ | ⟨p, h1, h2, h3⟩
           ·exact Or.inl ⟨h1, fun q hq => by
             rcases Nat.eq_or_lt_of_le (Nat.le_of_lt_succ hq) with h | h
             ·rw [h]; exact HNE.out
             ·exact h2 q h⟩
           ·exact Or.inr ⟨p, by omega, h2, h3⟩), BX⟩
     case measure => simp [intOf]; omega
    ·have heq : idF ms j = idn x.id := by rw [HFJ.out, of_decide_eq_true HB.out.symm]
     have HEQ := Lib.hid heq
     clear heq
     go_wp2_with (first | (with_reducible refine stop_load (t := 30) ?_) | (with_reducible refine stop_store (t := 30) ?_) | (with_reducible refine stop_load (t := 24) ?_) | (with_reducible refine stop_store (t := 24) ?_) | (with_reducible refine stop_load (t := 48) ?_) | (with_reducible refine stop_store (t := 48) ?_) | (with_reducible refine stop_load (t := 51) ?_) | (with_reducible refine stop_store (t := 51) ?_) | (with_reducible refine stop_build (t := 30) ?_) | (with_reducible refine stop_bs (t := 59) ?_) | (with_reducible refine stop_app ?_))
     (first | (refine ⟨?_, ?measure⟩; (repeat apply Exists.intro); refine ⟨?rel, rfl⟩) | refine ⟨?rel, ?measure⟩)
     case rel => exact ⟨j + 1, (j : Int), by omega, by go_num, rfl, Lib.hid (Or.inr ⟨j, by omega, rfl, HEQ.out⟩), BX⟩
     case measure => simp [intOf]; omega
  ·obtain rfl : N = j := by omega
   have r1 : ¬ (N : Int) < (N : Int) := by omega
   skip
   replace P := Lib.hid (P.out.ext BX.out)
   replace GA := Lib.hid (GA.out.ext BX.out)
   replace GV := Lib.hid (GV.out.ext BX.out)
   replace EX := Lib.hid (EX.out.ext BX.out)
   clear BX
   skip
   have d0 := GA.out.cells.1
   rw [hkind] at d0
   rcases HK.out with ⟨rfl, hno⟩ | ⟨p, hp, rfl, hpf⟩
   ·rw [HN.out] at hno
    have HNO := Lib.hid (ks_no P.out hno)
    clear hno
    go_wp2_with (first | (with_reducible refine stop_load (t := 30) ?_) | (with_reducible refine stop_store (t := 30) ?_) | (with_reducible refine stop_load (t := 24) ?_) | (with_reducible refine stop_store (t := 24) ?_) | (with_reducible refine stop_load (t := 48) ?_) | (with_reducible refine stop_store (t := 48) ?_) | (with_reducible refine stop_load (t := 51) ?_) | (with_reducible refine stop_store (t := 51) ?_) | (with_reducible refine stop_build (t := 30) ?_) | (with_reducible refine stop_bs (t := 59) ?_) | (with_reducible refine stop_app ?_))
    (with_reducible refine ⟨?_⟩); (with_reducible refine at_any ?_ ?_); (focus go_simp); refine fun K0 hK => ld_vid _ gv x rfl rfl GV.out (hK _ _ ?_)
    clear hK
    go_wp2_with (first | (with_reducible refine stop_load (t := 30) ?_) | (with_reducible refine stop_store (t := 30) ?_) | (with_reducible refine stop_load (t := 24) ?_) | (with_reducible refine stop_store (t := 24) ?_) | (with_reducible refine stop_load (t := 48) ?_) | (with_reducible refine stop_store (t := 48) ?_) | (with_reducible refine stop_load (t := 51) ?_) | (with_reducible refine stop_store (t := 51) ?_) | (with_reducible refine stop_build (t := 30) ?_) | (with_reducible refine stop_bs (t := 59) ?_) | (with_reducible refine stop_app ?_))
    refine (tget_any D rv vs x.id wr P.out.tb GV.out.1.idN).mono ?_
    rintro e wg ⟨xx, b, rfl, hb, hb1, hb0, hxn, x2⟩
    obtain rfl : b = false := by rw [hb]; exact decide_eq_false HNO.out
    have HXC := Lib.hid (hb0 rfl)
    have HXN := Lib.hid hxn
    clear hb hb1 hb0 hxn
    replace P := Lib.hid (P.out.ext x2)
    clear x2 GV EX GA d0
    go_wp2_with (first | (with_reducible refine stop_load (t := 30) ?_) | (with_reducible refine stop_store (t := 30) ?_) | (with_reducible refine stop_load (t := 24) ?_) | (with_reducible refine stop_store (t := 24) ?_) | (with_reducible refine stop_load (t := 48) ?_) | (with_reducible refine stop_store (t := 48) ?_) | (with_reducible refine stop_load (t := 51) ?_) | (with_reducible refine stop_store (t := 51) ?_) | (with_reducible refine stop_build (t := 30) ?_) | (with_reducible refine stop_bs (t := 59) ?_) | (with_reducible refine stop_app ?_))
    (with_reducible refine ⟨?_⟩); (with_reducible refine at_any ?_ ?_); (focus go_simp); refine fun K0 hK => st_v _ _ wg.heap.size xx rfl rfl rfl HXN.out.ok (Bk.new rfl _ _) (by rfl) (fun wh hd ho => hK _ _ ?_)
    clear hK
    have xx9 : Ex wg wh := ho.below wg.heap.size (Nat.le_refl _) wg (Ex.alloc wg _)
    replace HXN := Lib.hid (HXN.out.ext xx9)
    replace P := Lib.hid (P.out.ext xx9)
    obtain ⟨gt, hgt⟩ : ∃ g, g = wg.heap.size := ⟨_, rfl⟩
    rw [← hgt] at hd ⊢
    have GT := Lib.hid hd
    clear xx9 hd ho hgt
    go_wp2_with fail
    obtain ⟨T, hT⟩ : ∃ T : List (Rw wh.heap.size), T = [.is (.bool false), .is (.int .i64 (-1)), .is (.bool false), .is (.bool false), .is (.bool false), .is (.bool false), .is (.bool false), .is (undef), .is (undef), .is (undef), .is (undef), .is (undef), .is (undef), .is (undef), .is (.bool false), .is (.bool false), .is (.bool false), .is (.bool false), .is (.bool true), .is (.bool true), .is (xx.V), .is (zeroVt.V), .is (.bool true), .is (.bool false), .is (.bool false), .is (.bool false)] := ⟨_, rfl⟩
    have HTY : T.map Rw.tys = ([[], [], [], [], [], [], [], [], [], [], [], [], [], [], [], [], [], [], [], [], [], [], [], [], [], []] : List (List Nat)) := by rw [hT]; rfl
    refine wp_region_gen (JW wh.heap.size wh [0] T ([[], [], [], [], [], [], [], [], [], [], [], [], [], [], [], [], [], [], [], [], [], [], [], [], [], []] : List (List Nat)) ([none, none, none, none, none, none, none, none, none, none, none, none, none, none, none, none, none, none, none, none, none, none, none, none, none, none] : List (Option Nat)) ([] : List (Nat × Nat)) 100000) (by kernel_rfl) (by kernel_rfl) (by kernel_rfl) (fitB_spec (by kernel_rfl)) (fun listed f h => JW.start (Nat.le_refl _) listed f h) ?_ ?_
    ·intro i o ho
     have hi : i < 26 := (Array.getElem?_eq_some_iff.1 ho).1
     have hi' : i = 0 ∨ i = 1 ∨ i = 2 ∨ i = 3 ∨ i = 4 ∨ i = 5 ∨ i = 6 ∨ i = 7 ∨ i = 8 ∨ i = 9 ∨ i = 10 ∨ i = 11 ∨ i = 12 ∨ i = 13 ∨ i = 14 ∨ i = 15 ∨ i = 16 ∨ i = 17 ∨ i = 18 ∨ i = 19 ∨ i = 20 ∨ i = 21 ∨ i = 22 ∨ i = 23 ∨ i = 24 ∨ i = 25 := by omega
     clear hi
     rcases hi' with rfl | rfl | rfl | rfl | rfl | rfl | rfl | rfl | rfl | rfl | rfl | rfl | rfl | rfl | rfl | rfl | rfl | rfl | rfl | rfl | rfl | rfl | rfl | rfl | rfl | rfl
     all_goals (simp only [List.getElem?_toArray, List.getElem?_cons_zero, List.getElem?_cons_succ, Option.some.injEq] at ho; subst ho; intro listed f a w3 hJ hsz hls hun hdep hout hlat)
     ·rw [if_pos (by rfl)]
      intro K hK
      have q11 := hout 11 (outB_spec (by kernel_rfl))
      have hord := no_ord 0 listed
      refine wp_mv _ rfl (hK _ _ ?_)
      rw [show a.eval (.tmp 11) = .bool false from q11]
      exact hJ.plain HTY (by rw [hls]; decide) (Ex.refl _) (by rw [hT]; rfl) hord
     ·rw [if_pos (by rfl)]
      intro K hK
      have q8 := hout 8 (outB_spec (by kernel_rfl))
      have hord := no_ord 1 listed
      refine wp_mv _ rfl (hK _ _ ?_)
      rw [show a.eval (.tmp 8) = .int .i64 (-1) from q8]
      exact hJ.plain HTY (by rw [hls]; decide) (Ex.refl _) (by rw [hT]; rfl) hord
     ·rw [if_pos (by rfl)]
      intro K hK
      have dd96 := hdep ⟨1, .data⟩ (by simp) rfl
      have q96 := dd96.2 _ rfl _ rfl
      have h96 := hJ.vals 1 dd96.1 no_c
      rw [hT] at h96
      rw [show f 1 = .int .i64 (-1) from h96] at q96
      clear h96
      clear dd96
      have hord := no_ord 2 listed
      rw [Array.getD_eq_getD_getElem?] at q96
      clear hsz hdep hout hlat
      go_simp
      exact hK _ _ (hJ.plain HTY (by rw [hls]; decide) (Ex.refl _) (by rw [hT]; first | rfl | exact int_eq (by omega) | exact int_eq (by rw [IntKind.wrap_i64]; omega)) hord)
     ·rw [if_pos (by rfl)]
      intro K hK
      have dd95 := hdep ⟨0, .data⟩ (by simp) rfl
      have q95 := dd95.2 _ rfl _ rfl
      have h95 := hJ.vals 0 dd95.1 no_c
      rw [hT] at h95
      rw [show f 0 = .bool false from h95] at q95
      clear h95
      clear dd95
      have dd97 := hdep ⟨2, .data⟩ (by simp) rfl
      have q97 := dd97.2 _ rfl _ rfl
      have h97 := hJ.vals 2 dd97.1 no_c
      rw [hT] at h97
      rw [show f 2 = .bool false from h97] at q97
      clear h97
      clear dd97
      have hord := no_ord 3 listed
      rw [Array.getD_eq_getD_getElem?] at q95
      rw [Array.getD_eq_getD_getElem?] at q97
      clear hsz hdep hout hlat
      go_simp
      exact hK _ _ (hJ.plain HTY (by rw [hls]; decide) (Ex.refl _) (by rw [hT]; first | rfl | exact int_eq (by omega) | exact int_eq (by rw [IntKind.wrap_i64]; omega)) hord)
     ·rw [if_pos (by rfl)]
      intro K hK
      have dd98 := hdep ⟨3, .data⟩ (by simp) rfl
      have q98 := dd98.2 _ rfl _ rfl
      have h98 := hJ.vals 3 dd98.1 no_c
      rw [hT] at h98
      rw [show f 3 = .bool false from h98] at q98
      clear h98
      clear dd98
      have hord := no_ord 4 listed
      refine wp_mv _ rfl (hK _ _ ?_)
      rw [show a.eval (.tmp 98) = .bool false from q98]
      exact hJ.plain HTY (by rw [hls]; decide) (Ex.refl _) (by rw [hT]; rfl) hord
     ·have ddg := hdep ⟨4, .guard⟩ (by simp) rfl
      have kg := ddg.2 _ rfl _ rfl
      have hg := hJ.vals 4 ddg.1 no_c
      rw [hT] at hg
      rw [show f 4 = .bool false from hg] at kg
      clear hg ddg
      rw [if_pos (wanted_of rfl rfl rfl kg)]
      clear kg
      intro K hK
      have q11 := hout 11 (outB_spec (by kernel_rfl))
      have hord := no_ord 5 listed
      refine wp_mv _ rfl (hK _ _ ?_)
      rw [show a.eval (.tmp 11) = .bool false from q11]
      exact hJ.plain HTY (by rw [hls]; decide) (Ex.refl _) (by rw [hT]; rfl) hord
     ·have ddg := hdep ⟨4, .guard⟩ (by simp) rfl
      have kg := ddg.2 _ rfl _ rfl
      have hg := hJ.vals 4 ddg.1 no_c
      rw [hT] at hg
      rw [show f 4 = .bool false from hg] at kg
      clear hg ddg
      rw [if_pos (wanted_of rfl rfl rfl kg)]
      clear kg
      intro K hK
      have dd100 := hdep ⟨5, .data⟩ (by simp) rfl
      have q100 := dd100.2 _ rfl _ rfl
      have h100 := hJ.vals 5 dd100.1 no_c
      rw [hT] at h100
      rw [show f 5 = .bool false from h100] at q100
      clear h100
      clear dd100
      have hord := no_ord 6 listed
      refine wp_mv _ rfl (hK _ _ ?_)
      rw [show a.eval (.tmp 100) = .bool false from q100]
      exact hJ.plain HTY (by rw [hls]; decide) (Ex.refl _) (by rw [hT]; rfl) hord
     ·have ddg := hdep ⟨6, .guard⟩ (by simp) rfl
      have kg := ddg.2 _ rfl _ rfl
      have hg := hJ.vals 6 ddg.1 no_c
      rw [hT] at hg
      rw [show f 6 = .bool false from hg] at kg
      clear hg ddg
      have hord := no_ord 7 listed
      rw [if_neg (not_wanted rfl rfl rfl kg (by decide))]
      exact hJ.plain HTY (by rw [hls]; decide) (Ex.refl _) (by rw [hT]; first | exact trivial | rfl) hord
     ·have ddg := hdep ⟨6, .guard⟩ (by simp) rfl
      have kg := ddg.2 _ rfl _ rfl
      have hg := hJ.vals 6 ddg.1 no_c
      rw [hT] at hg
      rw [show f 6 = .bool false from hg] at kg
      clear hg ddg
      have hord := no_ord 8 listed
      rw [if_neg (not_wanted rfl rfl rfl kg (by decide))]
      exact hJ.plain HTY (by rw [hls]; decide) (Ex.refl _) (by rw [hT]; first | exact trivial | rfl) hord
     ·have ddg := hdep ⟨6, .guard⟩ (by simp) rfl
      have kg := ddg.2 _ rfl _ rfl
      have hg := hJ.vals 6 ddg.1 no_c
      rw [hT] at hg
      rw [show f 6 = .bool false from hg] at kg
      clear hg ddg
      have hord := no_ord 9 listed
      rw [if_neg (not_wanted rfl rfl rfl kg (by decide))]
      exact hJ.plain HTY (by rw [hls]; decide) (Ex.refl _) (by rw [hT]; first | exact trivial | rfl) hord
     ·have ddg := hdep ⟨6, .guard⟩ (by simp) rfl
      have kg := ddg.2 _ rfl _ rfl
      have hg := hJ.vals 6 ddg.1 no_c
      rw [hT] at hg
      rw [show f 6 = .bool false from hg] at kg
      clear hg ddg
      have hord := no_ord 10 listed
      rw [if_neg (not_wanted rfl rfl rfl kg (by decide))]
      exact hJ.plain HTY (by rw [hls]; decide) (Ex.refl _) (by rw [hT]; first | exact trivial | rfl) hord
     ·have ddg := hdep ⟨6, .guard⟩ (by simp) rfl
      have kg := ddg.2 _ rfl _ rfl
      have hg := hJ.vals 6 ddg.1 no_c
      rw [hT] at hg
      rw [show f 6 = .bool false from hg] at kg
      clear hg ddg
      have hord := no_ord 11 listed
      rw [if_neg (not_wanted rfl rfl rfl kg (by decide))]
      exact hJ.plain HTY (by rw [hls]; decide) (Ex.refl _) (by rw [hT]; first | exact trivial | rfl) hord
     ·have ddg := hdep ⟨6, .guard⟩ (by simp) rfl
      have kg := ddg.2 _ rfl _ rfl
      have hg := hJ.vals 6 ddg.1 no_c
      rw [hT] at hg
      rw [show f 6 = .bool false from hg] at kg
      clear hg ddg
      have hord := no_ord 12 listed
      rw [if_neg (not_wanted rfl rfl rfl kg (by decide))]
      exact hJ.plain HTY (by rw [hls]; decide) (Ex.refl _) (by rw [hT]; first | exact trivial | rfl) hord
     ·have ddg := hdep ⟨6, .guard⟩ (by simp) rfl
      have kg := ddg.2 _ rfl _ rfl
      have hg := hJ.vals 6 ddg.1 no_c
      rw [hT] at hg
      rw [show f 6 = .bool false from hg] at kg
      clear hg ddg
      have hord := no_ord 13 listed
      rw [if_neg (not_wanted rfl rfl rfl kg (by decide))]
      exact hJ.plain HTY (by rw [hls]; decide) (Ex.refl _) (by rw [hT]; first | exact trivial | rfl) hord
     ·have ddg := hdep ⟨4, .guard⟩ (by simp) rfl
      have kg := ddg.2 _ rfl _ rfl
      have hg := hJ.vals 4 ddg.1 no_c
      rw [hT] at hg
      rw [show f 4 = .bool false from hg] at kg
      clear hg ddg
      rw [if_pos (wanted_of rfl rfl rfl kg)]
      clear kg
      intro K hK
      have dd101 := hdep ⟨6, .data⟩ (by simp) rfl
      have q101 := dd101.2 _ rfl _ rfl
      have h101 := hJ.vals 6 dd101.1 no_c
      rw [hT] at h101
      rw [show f 6 = .bool false from h101] at q101
      clear h101
      clear dd101
      have dd108 := hdep ⟨13, .data⟩ (by simp) rfl
      have q108 := dd108.2 _ rfl _ rfl
      have h108 := hJ.vals 13 dd108.1 no_c
      rw [hT] at h108
      rw [show f 13 = undef from h108] at q108
      clear h108
      clear dd108
      have hord := no_ord 14 listed
      rw [Array.getD_eq_getD_getElem?] at q101
      rw [Array.getD_eq_getD_getElem?] at q108
      clear hsz hdep hout hlat
      go_simp
      exact hK _ _ (hJ.plain HTY (by rw [hls]; decide) (Ex.refl _) (by rw [hT]; first | rfl | exact int_eq (by omega) | exact int_eq (by rw [IntKind.wrap_i64]; omega)) hord)
     ·rw [if_pos (by rfl)]
      intro K hK
      have dd99 := hdep ⟨4, .data⟩ (by simp) rfl
      have q99 := dd99.2 _ rfl _ rfl
      have h99 := hJ.vals 4 dd99.1 no_c
      rw [hT] at h99
      rw [show f 4 = .bool false from h99] at q99
      clear h99
      clear dd99
      have dd109 := hdep ⟨14, .data⟩ (by simp) rfl
      have q109 := dd109.2 _ rfl _ rfl
      have h109 := hJ.vals 14 dd109.1 no_c
      rw [hT] at h109
      rw [show f 14 = .bool false from h109] at q109
      clear h109
      clear dd109
      have hord := no_ord 15 listed
      rw [Array.getD_eq_getD_getElem?] at q99
      rw [Array.getD_eq_getD_getElem?] at q109
      clear hsz hdep hout hlat
      go_simp
      exact hK _ _ (hJ.plain HTY (by rw [hls]; decide) (Ex.refl _) (by rw [hT]; first | rfl | exact int_eq (by omega) | exact int_eq (by rw [IntKind.wrap_i64]; omega)) hord)
     ·rw [if_pos (by rfl)]
      intro K hK
      have dd110 := hdep ⟨15, .data⟩ (by simp) rfl
      have q110 := dd110.2 _ rfl _ rfl
      have h110 := hJ.vals 15 dd110.1 no_c
      rw [hT] at h110
      rw [show f 15 = .bool false from h110] at q110
      clear h110
      clear dd110
      have hord := no_ord 16 listed
      refine wp_mv _ rfl (hK _ _ ?_)
      rw [show a.eval (.tmp 110) = .bool false from q110]
      exact hJ.plain HTY (by rw [hls]; decide) (Ex.refl _) (by rw [hT]; rfl) hord
     ·have ddg := hdep ⟨16, .guard⟩ (by simp) rfl
      have kg := ddg.2 _ rfl _ rfl
      have hg := hJ.vals 16 ddg.1 no_c
      rw [hT] at hg
      rw [show f 16 = .bool false from hg] at kg
      clear hg ddg
      rw [if_pos (wanted_of rfl rfl rfl kg)]
      clear kg
      intro K hK
      have q11 := hout 11 (outB_spec (by kernel_rfl))
      have hord := no_ord 17 listed
      refine wp_mv _ rfl (hK _ _ ?_)
      rw [show a.eval (.tmp 11) = .bool false from q11]
      exact hJ.plain HTY (by rw [hls]; decide) (Ex.refl _) (by rw [hT]; rfl) hord
     ·have ddg := hdep ⟨16, .guard⟩ (by simp) rfl
      have kg := ddg.2 _ rfl _ rfl
      have hg := hJ.vals 16 ddg.1 no_c
      rw [hT] at hg
      rw [show f 16 = .bool false from hg] at kg
      clear hg ddg
      rw [if_pos (wanted_of rfl rfl rfl kg)]
      clear kg
      intro K hK
      have dd112 := hdep ⟨17, .data⟩ (by simp) rfl
      have q112 := dd112.2 _ rfl _ rfl
      have h112 := hJ.vals 17 dd112.1 no_c
      rw [hT] at h112
      rw [show f 17 = .bool false from h112] at q112
      clear h112
      clear dd112
      have hord := no_ord 18 listed
      rw [Array.getD_eq_getD_getElem?] at q112
      clear hsz hdep hout hlat
      go_simp
      exact hK _ _ (hJ.plain HTY (by rw [hls]; decide) (Ex.refl _) (by rw [hT]; first | rfl | exact int_eq (by omega) | exact int_eq (by rw [IntKind.wrap_i64]; omega)) hord)
     ·have ddg := hdep ⟨16, .guard⟩ (by simp) rfl
      have kg := ddg.2 _ rfl _ rfl
      have hg := hJ.vals 16 ddg.1 no_c
      rw [hT] at hg
      rw [show f 16 = .bool false from hg] at kg
      clear hg ddg
      rw [if_pos (wanted_of rfl rfl rfl kg)]
      clear kg
      intro K hK
      have dd113 := hdep ⟨18, .data⟩ (by simp) rfl
      have q113 := dd113.2 _ rfl _ rfl
      have h113 := hJ.vals 18 dd113.1 no_c
      rw [hT] at h113
      rw [show f 18 = .bool true from h113] at q113
      clear h113
      clear dd113
      have hord := no_ord 19 listed
      refine wp_mv _ rfl (hK _ _ ?_)
      rw [show a.eval (.tmp 113) = .bool true from q113]
      exact hJ.plain HTY (by rw [hls]; decide) (Ex.refl _) (by rw [hT]; rfl) hord
     ·have ddg := hdep ⟨19, .guard⟩ (by simp) rfl
      have kg := ddg.2 _ rfl _ rfl
      have hg := hJ.vals 19 ddg.1 no_c
      rw [hT] at hg
      rw [show f 19 = .bool true from hg] at kg
      clear hg ddg
      rw [if_pos (wanted_of rfl rfl rfl kg)]
      clear kg
      intro K hK
      have q10 := hout 10 (outB_spec (by kernel_rfl))
      have hord := no_ord 20 listed
      exact ld_v (.tmp 10) gt xx rfl q10 (GT.out.ext hJ.ext.below) (hK _ _ (hJ.plain HTY (by rw [hls]; decide) (Ex.refl _) (by rw [hT]; rfl) hord))
     ·have ddg := hdep ⟨19, .guard⟩ (by simp) rfl
      have kg := ddg.2 _ rfl _ rfl
      have hg := hJ.vals 19 ddg.1 no_c
      rw [hT] at hg
      rw [show f 19 = .bool true from hg] at kg
      clear hg ddg
      rw [if_pos (wanted_of rfl rfl rfl kg)]
      clear kg
      intro K hK
      have hord := no_ord 21 listed
      exact wp_build _ _ rfl _ built_zero (hK _ _ (hJ.plain HTY (by rw [hls]; decide) (Ex.refl _) (by rw [hT]; rfl) hord))
     ·have ddg := hdep ⟨19, .guard⟩ (by simp) rfl
      have kg := ddg.2 _ rfl _ rfl
      have hg := hJ.vals 19 ddg.1 no_c
      rw [hT] at hg
      rw [show f 19 = .bool true from hg] at kg
      clear hg ddg
      rw [if_pos (wanted_of rfl rfl rfl kg)]
      clear kg
      intro K hK
      have dd115 := hdep ⟨20, .data⟩ (by simp) rfl
      have q115 := dd115.2 _ rfl _ rfl
      have h115 := hJ.vals 20 dd115.1 no_c
      rw [hT] at h115
      rw [show f 20 = xx.V from h115] at q115
      clear h115
      clear dd115
      have dd116 := hdep ⟨21, .data⟩ (by simp) rfl
      have q116 := dd116.2 _ rfl _ rfl
      have h116 := hJ.vals 21 dd116.1 no_c
      rw [hT] at h116
      rw [show f 21 = zeroVt.V from h116] at q116
      clear h116
      clear dd116
      have hord := no_ord 22 listed
      rw [Array.getD_eq_getD_getElem?] at q115
      rw [Array.getD_eq_getD_getElem?] at q116
      clear hsz hdep hout hlat
      go_simp
      refine (rsame_any xx zeroVt w3 (HXN.out.vi.ext hJ.ext.below) (zeroVt_in _)).mono ?_
      rintro e w4 ⟨rfl, x3⟩
      rw [decide_eq_true (show xx.ct = zeroVt.ct from HXC.out)]
      exact hK _ _ (hJ.plain HTY (by rw [hls]; decide) x3 (by rw [hT]; rfl) hord)
     ·have ddg := hdep ⟨19, .guard⟩ (by simp) rfl
      have kg := ddg.2 _ rfl _ rfl
      have hg := hJ.vals 19 ddg.1 no_c
      rw [hT] at hg
      rw [show f 19 = .bool true from hg] at kg
      clear hg ddg
      rw [if_pos (wanted_of rfl rfl rfl kg)]
      clear kg
      intro K hK
      have dd117 := hdep ⟨22, .data⟩ (by simp) rfl
      have q117 := dd117.2 _ rfl _ rfl
      have h117 := hJ.vals 22 dd117.1 no_c
      rw [hT] at h117
      rw [show f 22 = .bool true from h117] at q117
      clear h117
      clear dd117
      have hord := no_ord 23 listed
      rw [Array.getD_eq_getD_getElem?] at q117
      clear hsz hdep hout hlat
      go_simp
      exact hK _ _ (hJ.plain HTY (by rw [hls]; decide) (Ex.refl _) (by rw [hT]; first | rfl | exact int_eq (by omega) | exact int_eq (by rw [IntKind.wrap_i64]; omega)) hord)
     ·have ddg := hdep ⟨16, .guard⟩ (by simp) rfl
      have kg := ddg.2 _ rfl _ rfl
      have hg := hJ.vals 16 ddg.1 no_c
      rw [hT] at hg
      rw [show f 16 = .bool false from hg] at kg
      clear hg ddg
      rw [if_pos (wanted_of rfl rfl rfl kg)]
      clear kg
      intro K hK
      have dd114 := hdep ⟨19, .data⟩ (by simp) rfl
      have q114 := dd114.2 _ rfl _ rfl
      have h114 := hJ.vals 19 dd114.1 no_c
      rw [hT] at h114
      rw [show f 19 = .bool true from h114] at q114
      clear h114
      clear dd114
      have dd118 := hdep ⟨23, .data⟩ (by simp) rfl
      have q118 := dd118.2 _ rfl _ rfl
      have h118 := hJ.vals 23 dd118.1 no_c
      rw [hT] at h118
      rw [show f 23 = .bool false from h118] at q118
      clear h118
      clear dd118
      have hord := no_ord 24 listed
      rw [Array.getD_eq_getD_getElem?] at q114
      rw [Array.getD_eq_getD_getElem?] at q118
      clear hsz hdep hout hlat
      go_simp
      exact hK _ _ (hJ.plain HTY (by rw [hls]; decide) (Ex.refl _) (by rw [hT]; first | rfl | exact int_eq (by omega) | exact int_eq (by rw [IntKind.wrap_i64]; omega)) hord)
     ·rw [if_pos (by rfl)]
      intro K hK
      have dd111 := hdep ⟨16, .data⟩ (by simp) rfl
      have q111 := dd111.2 _ rfl _ rfl
      have h111 := hJ.vals 16 dd111.1 no_c
      rw [hT] at h111
      rw [show f 16 = .bool false from h111] at q111
      clear h111
      clear dd111
      have dd119 := hdep ⟨24, .data⟩ (by simp) rfl
      have q119 := dd119.2 _ rfl _ rfl
      have h119 := hJ.vals 24 dd119.1 no_c
      rw [hT] at h119
      rw [show f 24 = .bool false from h119] at q119
      clear h119
      clear dd119
      have hord := no_ord 25 listed
      rw [Array.getD_eq_getD_getElem?] at q111
      rw [Array.getD_eq_getD_getElem?] at q119
      clear hsz hdep hout hlat
      go_simp
      exact hK _ _ (hJ.plain HTY (by rw [hls]; decide) (Ex.refl _) (by rw [hT]; first | rfl | exact int_eq (by omega) | exact int_eq (by rw [IntKind.wrap_i64]; omega)) hord)
    ·intro listed f w3 hall hJ
     have f25 : f 25 = .bool false := by
      have h := hJ.vals 25 (hall 25 (by simp)) no_c
      rw [hT] at h; exact h
     have xk := hJ.ext
     simp only [putAll, Act.put, List.setIfInBounds_toArray, List.set_cons_zero, List.set_cons_succ, Nat.zero_add, Nat.reduceAdd]
     rw [f25]
     clear f25
     clear hJ hall hT HTY
     generalize f 0 = y0
     generalize f 1 = y1
     generalize f 2 = y2
     generalize f 3 = y3
     generalize f 4 = y4
     generalize f 5 = y5
     generalize f 6 = y6
     generalize f 7 = y7
     generalize f 8 = y8
     generalize f 9 = y9
     generalize f 10 = y10
     generalize f 11 = y11
     generalize f 12 = y12
     generalize f 13 = y13
     generalize f 14 = y14
     generalize f 15 = y15
     generalize f 16 = y16
     generalize f 17 = y17
     generalize f 18 = y18
     generalize f 19 = y19
     generalize f 20 = y20
     generalize f 21 = y21
     generalize f 22 = y22
     generalize f 23 = y23
     generalize f 24 = y24
     replace P := Lib.hid (P.out.ext (show Ex wh w3 from xk.below))
     clear xk
     go_wp2_with (first | (with_reducible refine stop_load (t := 30) ?_) | (with_reducible refine stop_store (t := 30) ?_) | (with_reducible refine stop_load (t := 24) ?_) | (with_reducible refine stop_store (t := 24) ?_) | (with_reducible refine stop_load (t := 48) ?_) | (with_reducible refine stop_store (t := 48) ?_) | (with_reducible refine stop_load (t := 51) ?_) | (with_reducible refine stop_store (t := 51) ?_) | (with_reducible refine stop_build (t := 30) ?_) | (with_reducible refine stop_bs (t := 59) ?_) | (with_reducible refine stop_app ?_))
     have CL := tlen_any D rv vs w3 P.out.tb
     rw [P.out.len] at CL
     rw [← HN.out] at CL
     refine CL.mono ?_
     rintro e wl ⟨rfl, hwl⟩
     subst hwl
     clear CL
     go_wp2_with (first | (with_reducible refine stop_load (t := 30) ?_) | (with_reducible refine stop_store (t := 30) ?_) | (with_reducible refine stop_load (t := 24) ?_) | (with_reducible refine stop_store (t := 24) ?_) | (with_reducible refine stop_load (t := 48) ?_) | (with_reducible refine stop_store (t := 48) ?_) | (with_reducible refine stop_load (t := 51) ?_) | (with_reducible refine stop_store (t := 51) ?_) | (with_reducible refine stop_build (t := 30) ?_) | (with_reducible refine stop_bs (t := 59) ?_) | (with_reducible refine stop_app ?_))
     refine (tall_any D rv vs w3 P.out.tb).mono ?_
     rintro e wt ⟨vt, ts, rfl, hvr, hc2, x5⟩
     obtain ⟨adt, capt, rfl, hit, hct9⟩ := hvr.inn2
     replace P := Lib.hid (P.out.ext x5)
     have HTS := Lib.hid hvr
     have HC2 := Lib.hid hc2
     have HCT9 := Lib.hid hct9
     clear hvr hc2 x5 hit hct9
     go_wp2_with (first | (with_reducible refine stop_load (t := 30) ?_) | (with_reducible refine stop_store (t := 30) ?_) | (with_reducible refine stop_load (t := 24) ?_) | (with_reducible refine stop_store (t := 24) ?_) | (with_reducible refine stop_load (t := 48) ?_) | (with_reducible refine stop_store (t := 48) ?_) | (with_reducible refine stop_load (t := 51) ?_) | (with_reducible refine stop_store (t := 51) ?_) | (with_reducible refine stop_build (t := 30) ?_) | (with_reducible refine stop_bs (t := 59) ?_) | (with_reducible refine stop_app ?_))
     obtain ⟨ad8, cap8, e8, hin8, hc8⟩ := P.out.inn
     rw [← HN.out] at e8
     cases e8
     have CV := rvs_any adt _ capt _ ts ms HCT9.out hc8 wt HTS.out.rd.1 hin8 HTS.out.vis P.out.vis
     rw [← HN.out] at CV
     rw [decide_eq_true (HC2.out.trans P.out.ct)] at CV
     refine CV.mono ?_
     rintro e wu ⟨rfl, x9⟩
     replace P := Lib.hid (P.out.ext x9)
     clear CV x9 HTS HC2 HCT9 hin8 hc8
     go_wp2_with (first | (with_reducible refine stop_load (t := 30) ?_) | (with_reducible refine stop_store (t := 30) ?_) | (with_reducible refine stop_load (t := 24) ?_) | (with_reducible refine stop_store (t := 24) ?_) | (with_reducible refine stop_load (t := 48) ?_) | (with_reducible refine stop_store (t := 48) ?_) | (with_reducible refine stop_load (t := 51) ?_) | (with_reducible refine stop_store (t := 51) ?_) | (with_reducible refine stop_build (t := 30) ?_) | (with_reducible refine stop_bs (t := 59) ?_) | (with_reducible refine stop_app ?_))
     refine ⟨⟨_, rv, k + 1, vs, ms, ⟨by omega, P⟩, rfl, rfl, rfl, rfl, rfl, rfl, rfl⟩, by simp [p12M, intOf]; omega⟩
   ·have HPF := Lib.hid hpf
    clear hpf
    have p0 : (0 : Int) ≤ (p : Int) := by omega
    have p1 : (p : Int) < (N : Int) := by omega
    go_wp2_with (first | (with_reducible refine stop_load (t := 30) ?_) | (with_reducible refine stop_store (t := 30) ?_) | (with_reducible refine stop_load (t := 24) ?_) | (with_reducible refine stop_store (t := 24) ?_) | (with_reducible refine stop_load (t := 48) ?_) | (with_reducible refine stop_store (t := 48) ?_) | (with_reducible refine stop_load (t := 51) ?_) | (with_reducible refine stop_store (t := 51) ?_) | (with_reducible refine stop_build (t := 30) ?_) | (with_reducible refine stop_bs (t := 59) ?_) | (with_reducible refine stop_app ?_))
    (with_reducible refine ⟨?_⟩); (with_reducible refine at_any ?_ ?_); (focus go_simp); refine fun K0 hK => ld_vid _ gv x rfl rfl GV.out (hK _ _ ?_)
    clear hK
    go_wp2_with (first | (with_reducible refine stop_load (t := 30) ?_) | (with_reducible refine stop_store (t := 30) ?_) | (with_reducible refine stop_load (t := 24) ?_) | (with_reducible refine stop_store (t := 24) ?_) | (with_reducible refine stop_load (t := 48) ?_) | (with_reducible refine stop_store (t := 48) ?_) | (with_reducible refine stop_load (t := 51) ?_) | (with_reducible refine stop_store (t := 51) ?_) | (with_reducible refine stop_build (t := 30) ?_) | (with_reducible refine stop_bs (t := 59) ?_) | (with_reducible refine stop_app ?_))
    refine (tget_any D rv vs x.id wr P.out.tb GV.out.1.idN).mono ?_
    rintro e wg ⟨xx, b, rfl, hb, hb1, hb0, hxn, x2⟩
    obtain rfl : b = true := by rw [hb]; exact decide_eq_true ⟨p, by rw [P.out.len, ← HN.out]; exact hp, by rw [P.out.idF]; exact HPF.out⟩
    obtain ⟨q, y, hq, hqf, hxy⟩ := hb1 rfl
    obtain ⟨m, hm⟩ : ∃ m, ms[p]? = some m := ⟨_, List.getElem?_eq_getElem (by rw [← HN.out]; exact hp)⟩
    have hqp : q = p := by
     have h1 : idF ms q = idF ms p := by rw [← P.out.idF, hqf, HPF.out]
     have hql : q < ms.length := by rw [← P.out.len]; exact (List.getElem?_eq_some_iff.1 hq).1
     rcases Nat.lt_trichotomy q p with h | h | h
     ·have := P.out.mono q p h (by rw [← HN.out]; exact hp); omega
     ·exact h
     ·have := P.out.mono p q h hql; omega
    subst hqp
    have hym : y.ct = m.ct := by
     have e1 : (vs.map Vt.ct)[q]? = (ms.map Vt.ct)[q]? := by rw [P.out.ct]
     rw [List.getElem?_map, List.getElem?_map, hq, hm] at e1
     simpa using e1
    have HXC : Hid (xx.ct = m.ct) := Lib.hid (hxy.trans hym)
    have HMQ := Lib.hid hm
    clear hq hqf hxy hym hm
    have HXN := Lib.hid hxn
    clear hb hb1 hb0 hxn
    replace P := Lib.hid (P.out.ext x2)
    clear x2 GV EX GA d0
    go_wp2_with (first | (with_reducible refine stop_load (t := 30) ?_) | (with_reducible refine stop_store (t := 30) ?_) | (with_reducible refine stop_load (t := 24) ?_) | (with_reducible refine stop_store (t := 24) ?_) | (with_reducible refine stop_load (t := 48) ?_) | (with_reducible refine stop_store (t := 48) ?_) | (with_reducible refine stop_load (t := 51) ?_) | (with_reducible refine stop_store (t := 51) ?_) | (with_reducible refine stop_build (t := 30) ?_) | (with_reducible refine stop_bs (t := 59) ?_) | (with_reducible refine stop_app ?_))
    (with_reducible refine ⟨?_⟩); (with_reducible refine at_any ?_ ?_); (focus go_simp); refine fun K0 hK => st_v _ _ wg.heap.size xx rfl rfl rfl HXN.out.ok (Bk.new rfl _ _) (by rfl) (fun wh hd ho => hK _ _ ?_)
    clear hK
    have xx9 : Ex wg wh := ho.below wg.heap.size (Nat.le_refl _) wg (Ex.alloc wg _)
    replace HXN := Lib.hid (HXN.out.ext xx9)
    replace P := Lib.hid (P.out.ext xx9)
    obtain ⟨gt, hgt⟩ : ∃ g, g = wg.heap.size := ⟨_, rfl⟩
    rw [← hgt] at hd ⊢
    have GT := Lib.hid hd
    clear xx9 hd ho hgt
    go_wp2_with fail
    obtain ⟨ad9, cap9, e9, hin9, _⟩ := P.out.inn
    rw [← HN.out] at e9
    cases e9
    obtain ⟨am, om, rfl, ham, hrm⟩ := hin9.read (by rw [← HN.out]; omega)
    have MR := Lib.hid (hrm q m HMQ.out)
    have HAM := Lib.hid ham
    have MI := Lib.hid (P.out.vis q m HMQ.out)
    clear hin9 ham hrm
    obtain ⟨T, hT⟩ : ∃ T : List (Rw wh.heap.size), T = [.is (.bool true), .is (.int .i64 q), .is (.bool true), .is (.bool false), .is (.bool false), .is (.bool true), .is (.bool true), .is (xx.V), .is (.slice (some ⟨am, om, none⟩) N capm), .is (.int .i64 q), .is (.pointer (some ⟨am, om + q * 42, none⟩)), .is (m.V), .is (.bool true), .is (.bool false), .is (.bool false), .is (.bool false), .is (.bool false), .is (.bool true), .is (.bool false), .is (.bool false), .is (undef), .is (undef), .is (undef), .is (undef), .is (.bool false), .is (.bool false)] := ⟨_, rfl⟩
    have HTY : T.map Rw.tys = ([[], [], [], [], [], [], [], [], [], [], [], [], [], [], [], [], [], [], [], [], [], [], [], [], [], []] : List (List Nat)) := by rw [hT]; rfl
    refine wp_region_gen (JW wh.heap.size wh [0] T ([[], [], [], [], [], [], [], [], [], [], [], [], [], [], [], [], [], [], [], [], [], [], [], [], [], []] : List (List Nat)) ([none, none, none, none, none, none, none, none, none, none, none, none, none, none, none, none, none, none, none, none, none, none, none, none, none, none] : List (Option Nat)) ([] : List (Nat × Nat)) 100000) (by kernel_rfl) (by kernel_rfl) (by kernel_rfl) (fitB_spec (by kernel_rfl)) (fun listed f h => JW.start (Nat.le_refl _) listed f h) ?_ ?_
    ·intro i o ho
     have hi : i < 26 := (Array.getElem?_eq_some_iff.1 ho).1
     have hi' : i = 0 ∨ i = 1 ∨ i = 2 ∨ i = 3 ∨ i = 4 ∨ i = 5 ∨ i = 6 ∨ i = 7 ∨ i = 8 ∨ i = 9 ∨ i = 10 ∨ i = 11 ∨ i = 12 ∨ i = 13 ∨ i = 14 ∨ i = 15 ∨ i = 16 ∨ i = 17 ∨ i = 18 ∨ i = 19 ∨ i = 20 ∨ i = 21 ∨ i = 22 ∨ i = 23 ∨ i = 24 ∨ i = 25 := by omega
     clear hi
     rcases hi' with rfl | rfl | rfl | rfl | rfl | rfl | rfl | rfl | rfl | rfl | rfl | rfl | rfl | rfl | rfl | rfl | rfl | rfl | rfl | rfl | rfl | rfl | rfl | rfl | rfl | rfl
     all_goals (simp only [List.getElem?_toArray, List.getElem?_cons_zero, List.getElem?_cons_succ, Option.some.injEq] at ho; subst ho; intro listed f a w3 hJ hsz hls hun hdep hout hlat)
     ·rw [if_pos (by rfl)]
      intro K hK
      have q11 := hout 11 (outB_spec (by kernel_rfl))
      have hord := no_ord 0 listed
      refine wp_mv _ rfl (hK _ _ ?_)
      rw [show a.eval (.tmp 11) = .bool true from q11]
      exact hJ.plain HTY (by rw [hls]; decide) (Ex.refl _) (by rw [hT]; rfl) hord
     ·rw [if_pos (by rfl)]
      intro K hK
      have q8 := hout 8 (outB_spec (by kernel_rfl))
      have hord := no_ord 1 listed
      refine wp_mv _ rfl (hK _ _ ?_)
      rw [show a.eval (.tmp 8) = .int .i64 q from q8]
      exact hJ.plain HTY (by rw [hls]; decide) (Ex.refl _) (by rw [hT]; rfl) hord
     ·rw [if_pos (by rfl)]
      intro K hK
      have dd96 := hdep ⟨1, .data⟩ (by simp) rfl
      have q96 := dd96.2 _ rfl _ rfl
      have h96 := hJ.vals 1 dd96.1 no_c
      rw [hT] at h96
      rw [show f 1 = .int .i64 q from h96] at q96
      clear h96
      clear dd96
      have hord := no_ord 2 listed
      rw [Array.getD_eq_getD_getElem?] at q96
      clear hsz hdep hout hlat
      go_simp
      exact hK _ _ (hJ.plain HTY (by rw [hls]; decide) (Ex.refl _) (by rw [hT]; first | rfl | exact int_eq (by omega) | exact int_eq (by rw [IntKind.wrap_i64]; omega)) hord)
     ·rw [if_pos (by rfl)]
      intro K hK
      have dd95 := hdep ⟨0, .data⟩ (by simp) rfl
      have q95 := dd95.2 _ rfl _ rfl
      have h95 := hJ.vals 0 dd95.1 no_c
      rw [hT] at h95
      rw [show f 0 = .bool true from h95] at q95
      clear h95
      clear dd95
      have dd97 := hdep ⟨2, .data⟩ (by simp) rfl
      have q97 := dd97.2 _ rfl _ rfl
      have h97 := hJ.vals 2 dd97.1 no_c
      rw [hT] at h97
      rw [show f 2 = .bool true from h97] at q97
      clear h97
      clear dd97
      have hord := no_ord 3 listed
      rw [Array.getD_eq_getD_getElem?] at q95
      rw [Array.getD_eq_getD_getElem?] at q97
      clear hsz hdep hout hlat
      go_simp
      exact hK _ _ (hJ.plain HTY (by rw [hls]; decide) (Ex.refl _) (by rw [hT]; first | rfl | exact int_eq (by omega) | exact int_eq (by rw [IntKind.wrap_i64]; omega)) hord)
     ·rw [if_pos (by rfl)]
      intro K hK
      have dd98 := hdep ⟨3, .data⟩ (by simp) rfl
      have q98 := dd98.2 _ rfl _ rfl
      have h98 := hJ.vals 3 dd98.1 no_c
      rw [hT] at h98
      rw [show f 3 = .bool false from h98] at q98
      clear h98
      clear dd98
      have hord := no_ord 4 listed
      refine wp_mv _ rfl (hK _ _ ?_)
      rw [show a.eval (.tmp 98) = .bool false from q98]
      exact hJ.plain HTY (by rw [hls]; decide) (Ex.refl _) (by rw [hT]; rfl) hord
     ·have ddg := hdep ⟨4, .guard⟩ (by simp) rfl
      have kg := ddg.2 _ rfl _ rfl
      have hg := hJ.vals 4 ddg.1 no_c
      rw [hT] at hg
      rw [show f 4 = .bool false from hg] at kg
      clear hg ddg
      rw [if_pos (wanted_of rfl rfl rfl kg)]
      clear kg
      intro K hK
      have q11 := hout 11 (outB_spec (by kernel_rfl))
      have hord := no_ord 5 listed
      refine wp_mv _ rfl (hK _ _ ?_)
      rw [show a.eval (.tmp 11) = .bool true from q11]
      exact hJ.plain HTY (by rw [hls]; decide) (Ex.refl _) (by rw [hT]; rfl) hord
     ·have ddg := hdep ⟨4, .guard⟩ (by simp) rfl
      have kg := ddg.2 _ rfl _ rfl
      have hg := hJ.vals 4 ddg.1 no_c
      rw [hT] at hg
      rw [show f 4 = .bool false from hg] at kg
      clear hg ddg
      rw [if_pos (wanted_of rfl rfl rfl kg)]
      clear kg
      intro K hK
      have dd100 := hdep ⟨5, .data⟩ (by simp) rfl
      have q100 := dd100.2 _ rfl _ rfl
      have h100 := hJ.vals 5 dd100.1 no_c
      rw [hT] at h100
      rw [show f 5 = .bool true from h100] at q100
      clear h100
      clear dd100
      have hord := no_ord 6 listed
      refine wp_mv _ rfl (hK _ _ ?_)
      rw [show a.eval (.tmp 100) = .bool true from q100]
      exact hJ.plain HTY (by rw [hls]; decide) (Ex.refl _) (by rw [hT]; rfl) hord
     ·have ddg := hdep ⟨6, .guard⟩ (by simp) rfl
      have kg := ddg.2 _ rfl _ rfl
      have hg := hJ.vals 6 ddg.1 no_c
      rw [hT] at hg
      rw [show f 6 = .bool true from hg] at kg
      clear hg ddg
      rw [if_pos (wanted_of rfl rfl rfl kg)]
      clear kg
      intro K hK
      have q10 := hout 10 (outB_spec (by kernel_rfl))
      have hord := no_ord 7 listed
      exact ld_v (.tmp 10) gt xx rfl q10 (GT.out.ext hJ.ext.below) (hK _ _ (hJ.plain HTY (by rw [hls]; decide) (Ex.refl _) (by rw [hT]; rfl) hord))
     ·have ddg := hdep ⟨6, .guard⟩ (by simp) rfl
      have kg := ddg.2 _ rfl _ rfl
      have hg := hJ.vals 6 ddg.1 no_c
      rw [hT] at hg
      rw [show f 6 = .bool true from hg] at kg
      clear hg ddg
      rw [if_pos (wanted_of rfl rfl rfl kg)]
      clear kg
      intro K hK
      have q4 := hout 4 (outB_spec (by kernel_rfl))
      have hord := no_ord 8 listed
      refine wp_mv _ rfl (hK _ _ ?_)
      rw [show a.eval (.tmp 4) = .slice (some ⟨am, om, none⟩) N capm from q4]
      exact hJ.plain HTY (by rw [hls]; decide) (Ex.refl _) (by rw [hT]; rfl) hord
     ·have ddg := hdep ⟨6, .guard⟩ (by simp) rfl
      have kg := ddg.2 _ rfl _ rfl
      have hg := hJ.vals 6 ddg.1 no_c
      rw [hT] at hg
      rw [show f 6 = .bool true from hg] at kg
      clear hg ddg
      rw [if_pos (wanted_of rfl rfl rfl kg)]
      clear kg
      intro K hK
      have q8 := hout 8 (outB_spec (by kernel_rfl))
      have hord := no_ord 9 listed
      refine wp_mv _ rfl (hK _ _ ?_)
      rw [show a.eval (.tmp 8) = .int .i64 q from q8]
      exact hJ.plain HTY (by rw [hls]; decide) (Ex.refl _) (by rw [hT]; rfl) hord
     ·have ddg := hdep ⟨6, .guard⟩ (by simp) rfl
      have kg := ddg.2 _ rfl _ rfl
      have hg := hJ.vals 6 ddg.1 no_c
      rw [hT] at hg
      rw [show f 6 = .bool true from hg] at kg
      clear hg ddg
      rw [if_pos (wanted_of rfl rfl rfl kg)]
      clear kg
      intro K hK
      have dd103 := hdep ⟨8, .data⟩ (by simp) rfl
      have q103 := dd103.2 _ rfl _ rfl
      have h103 := hJ.vals 8 dd103.1 no_c
      rw [hT] at h103
      rw [show f 8 = .slice (some ⟨am, om, none⟩) N capm from h103] at q103
      clear h103
      clear dd103
      have dd104 := hdep ⟨9, .data⟩ (by simp) rfl
      have q104 := dd104.2 _ rfl _ rfl
      have h104 := hJ.vals 9 dd104.1 no_c
      rw [hT] at h104
      rw [show f 9 = .int .i64 q from h104] at q104
      clear h104
      clear dd104
      have hord := no_ord 10 listed
      rw [Array.getD_eq_getD_getElem?] at q103
      rw [Array.getD_eq_getD_getElem?] at q104
      clear hsz hdep hout hlat
      go_simp
      exact hK _ _ (hJ.plain HTY (by rw [hls]; decide) (Ex.refl _) (by rw [hT]; first | rfl | exact int_eq (by omega) | exact int_eq (by rw [IntKind.wrap_i64]; omega)) hord)
     ·have ddg := hdep ⟨6, .guard⟩ (by simp) rfl
      have kg := ddg.2 _ rfl _ rfl
      have hg := hJ.vals 6 ddg.1 no_c
      rw [hT] at hg
      rw [show f 6 = .bool true from hg] at kg
      clear hg ddg
      rw [if_pos (wanted_of rfl rfl rfl kg)]
      clear kg
      intro K hK
      have dd105 := hdep ⟨10, .data⟩ (by simp) rfl
      have q105 := dd105.2 _ rfl _ rfl
      have h105 := hJ.vals 10 dd105.1 no_c
      rw [hT] at h105
      rw [show f 10 = .pointer (some ⟨am, om + q * 42, none⟩) from h105] at q105
      clear h105
      clear dd105
      have hord := no_ord 11 listed
      exact ld_vr (.tmp 105) am (om + q * 42) m MI.out.ok rfl q105 (range_ex MR.out hJ.ext.below HAM.out) (hK _ _ (hJ.plain HTY (by rw [hls]; decide) (Ex.refl _) (by rw [hT]; rfl) hord))
     ·have ddg := hdep ⟨6, .guard⟩ (by simp) rfl
      have kg := ddg.2 _ rfl _ rfl
      have hg := hJ.vals 6 ddg.1 no_c
      rw [hT] at hg
      rw [show f 6 = .bool true from hg] at kg
      clear hg ddg
      rw [if_pos (wanted_of rfl rfl rfl kg)]
      clear kg
      intro K hK
      have dd102 := hdep ⟨7, .data⟩ (by simp) rfl
      have q102 := dd102.2 _ rfl _ rfl
      have h102 := hJ.vals 7 dd102.1 no_c
      rw [hT] at h102
      rw [show f 7 = xx.V from h102] at q102
      clear h102
      clear dd102
      have dd106 := hdep ⟨11, .data⟩ (by simp) rfl
      have q106 := dd106.2 _ rfl _ rfl
      have h106 := hJ.vals 11 dd106.1 no_c
      rw [hT] at h106
      rw [show f 11 = m.V from h106] at q106
      clear h106
      clear dd106
      have hord := no_ord 12 listed
      rw [Array.getD_eq_getD_getElem?] at q102
      rw [Array.getD_eq_getD_getElem?] at q106
      clear hsz hdep hout hlat
      go_simp
      refine (rsame_any xx m w3 (HXN.out.vi.ext hJ.ext.below) (MI.out.ext hJ.ext.below)).mono ?_
      rintro e w4 ⟨rfl, x3⟩
      rw [decide_eq_true HXC.out]
      exact hK _ _ (hJ.plain HTY (by rw [hls]; decide) x3 (by rw [hT]; rfl) hord)
     ·have ddg := hdep ⟨6, .guard⟩ (by simp) rfl
      have kg := ddg.2 _ rfl _ rfl
      have hg := hJ.vals 6 ddg.1 no_c
      rw [hT] at hg
      rw [show f 6 = .bool true from hg] at kg
      clear hg ddg
      rw [if_pos (wanted_of rfl rfl rfl kg)]
      clear kg
      intro K hK
      have dd107 := hdep ⟨12, .data⟩ (by simp) rfl
      have q107 := dd107.2 _ rfl _ rfl
      have h107 := hJ.vals 12 dd107.1 no_c
      rw [hT] at h107
      rw [show f 12 = .bool true from h107] at q107
      clear h107
      clear dd107
      have hord := no_ord 13 listed
      rw [Array.getD_eq_getD_getElem?] at q107
      clear hsz hdep hout hlat
      go_simp
      exact hK _ _ (hJ.plain HTY (by rw [hls]; decide) (Ex.refl _) (by rw [hT]; first | rfl | exact int_eq (by omega) | exact int_eq (by rw [IntKind.wrap_i64]; omega)) hord)
     ·have ddg := hdep ⟨4, .guard⟩ (by simp) rfl
      have kg := ddg.2 _ rfl _ rfl
      have hg := hJ.vals 4 ddg.1 no_c
      rw [hT] at hg
      rw [show f 4 = .bool false from hg] at kg
      clear hg ddg
      rw [if_pos (wanted_of rfl rfl rfl kg)]
      clear kg
      intro K hK
      have dd101 := hdep ⟨6, .data⟩ (by simp) rfl
      have q101 := dd101.2 _ rfl _ rfl
      have h101 := hJ.vals 6 dd101.1 no_c
      rw [hT] at h101
      rw [show f 6 = .bool true from h101] at q101
      clear h101
      clear dd101
      have dd108 := hdep ⟨13, .data⟩ (by simp) rfl
      have q108 := dd108.2 _ rfl _ rfl
      have h108 := hJ.vals 13 dd108.1 no_c
      rw [hT] at h108
      rw [show f 13 = .bool false from h108] at q108
      clear h108
      clear dd108
      have hord := no_ord 14 listed
      rw [Array.getD_eq_getD_getElem?] at q101
      rw [Array.getD_eq_getD_getElem?] at q108
      clear hsz hdep hout hlat
      go_simp
      exact hK _ _ (hJ.plain HTY (by rw [hls]; decide) (Ex.refl _) (by rw [hT]; first | rfl | exact int_eq (by omega) | exact int_eq (by rw [IntKind.wrap_i64]; omega)) hord)
     ·rw [if_pos (by rfl)]
      intro K hK
      have dd99 := hdep ⟨4, .data⟩ (by simp) rfl
      have q99 := dd99.2 _ rfl _ rfl
      have h99 := hJ.vals 4 dd99.1 no_c
      rw [hT] at h99
      rw [show f 4 = .bool false from h99] at q99
      clear h99
      clear dd99
      have dd109 := hdep ⟨14, .data⟩ (by simp) rfl
      have q109 := dd109.2 _ rfl _ rfl
      have h109 := hJ.vals 14 dd109.1 no_c
      rw [hT] at h109
      rw [show f 14 = .bool false from h109] at q109
      clear h109
      clear dd109
      have hord := no_ord 15 listed
      rw [Array.getD_eq_getD_getElem?] at q99
      rw [Array.getD_eq_getD_getElem?] at q109
      clear hsz hdep hout hlat
      go_simp
      exact hK _ _ (hJ.plain HTY (by rw [hls]; decide) (Ex.refl _) (by rw [hT]; first | rfl | exact int_eq (by omega) | exact int_eq (by rw [IntKind.wrap_i64]; omega)) hord)
     ·rw [if_pos (by rfl)]
      intro K hK
      have dd110 := hdep ⟨15, .data⟩ (by simp) rfl
      have q110 := dd110.2 _ rfl _ rfl
      have h110 := hJ.vals 15 dd110.1 no_c
      rw [hT] at h110
      rw [show f 15 = .bool false from h110] at q110
      clear h110
      clear dd110
      have hord := no_ord 16 listed
      refine wp_mv _ rfl (hK _ _ ?_)
      rw [show a.eval (.tmp 110) = .bool false from q110]
      exact hJ.plain HTY (by rw [hls]; decide) (Ex.refl _) (by rw [hT]; rfl) hord
     ·have ddg := hdep ⟨16, .guard⟩ (by simp) rfl
      have kg := ddg.2 _ rfl _ rfl
      have hg := hJ.vals 16 ddg.1 no_c
      rw [hT] at hg
      rw [show f 16 = .bool false from hg] at kg
      clear hg ddg
      rw [if_pos (wanted_of rfl rfl rfl kg)]
      clear kg
      intro K hK
      have q11 := hout 11 (outB_spec (by kernel_rfl))
      have hord := no_ord 17 listed
      refine wp_mv _ rfl (hK _ _ ?_)
      rw [show a.eval (.tmp 11) = .bool true from q11]
      exact hJ.plain HTY (by rw [hls]; decide) (Ex.refl _) (by rw [hT]; rfl) hord
     ·have ddg := hdep ⟨16, .guard⟩ (by simp) rfl
      have kg := ddg.2 _ rfl _ rfl
      have hg := hJ.vals 16 ddg.1 no_c
      rw [hT] at hg
      rw [show f 16 = .bool false from hg] at kg
      clear hg ddg
      rw [if_pos (wanted_of rfl rfl rfl kg)]
      clear kg
      intro K hK
      have dd112 := hdep ⟨17, .data⟩ (by simp) rfl
      have q112 := dd112.2 _ rfl _ rfl
      have h112 := hJ.vals 17 dd112.1 no_c
      rw [hT] at h112
      rw [show f 17 = .bool true from h112] at q112
      clear h112
      clear dd112
      have hord := no_ord 18 listed
      rw [Array.getD_eq_getD_getElem?] at q112
      clear hsz hdep hout hlat
      go_simp
      exact hK _ _ (hJ.plain HTY (by rw [hls]; decide) (Ex.refl _) (by rw [hT]; first | rfl | exact int_eq (by omega) | exact int_eq (by rw [IntKind.wrap_i64]; omega)) hord)
     ·have ddg := hdep ⟨16, .guard⟩ (by simp) rfl
      have kg := ddg.2 _ rfl _ rfl
      have hg := hJ.vals 16 ddg.1 no_c
      rw [hT] at hg
      rw [show f 16 = .bool false from hg] at kg
      clear hg ddg
      rw [if_pos (wanted_of rfl rfl rfl kg)]
      clear kg
      intro K hK
      have dd113 := hdep ⟨18, .data⟩ (by simp) rfl
      have q113 := dd113.2 _ rfl _ rfl
      have h113 := hJ.vals 18 dd113.1 no_c
      rw [hT] at h113
      rw [show f 18 = .bool false from h113] at q113
      clear h113
      clear dd113
      have hord := no_ord 19 listed
      refine wp_mv _ rfl (hK _ _ ?_)
      rw [show a.eval (.tmp 113) = .bool false from q113]
      exact hJ.plain HTY (by rw [hls]; decide) (Ex.refl _) (by rw [hT]; rfl) hord
     ·have ddg := hdep ⟨19, .guard⟩ (by simp) rfl
      have kg := ddg.2 _ rfl _ rfl
      have hg := hJ.vals 19 ddg.1 no_c
      rw [hT] at hg
      rw [show f 19 = .bool false from hg] at kg
      clear hg ddg
      have hord := no_ord 20 listed
      rw [if_neg (not_wanted rfl rfl rfl kg (by decide))]
      exact hJ.plain HTY (by rw [hls]; decide) (Ex.refl _) (by rw [hT]; first | exact trivial | rfl) hord
     ·have ddg := hdep ⟨19, .guard⟩ (by simp) rfl
      have kg := ddg.2 _ rfl _ rfl
      have hg := hJ.vals 19 ddg.1 no_c
      rw [hT] at hg
      rw [show f 19 = .bool false from hg] at kg
      clear hg ddg
      have hord := no_ord 21 listed
      rw [if_neg (not_wanted rfl rfl rfl kg (by decide))]
      exact hJ.plain HTY (by rw [hls]; decide) (Ex.refl _) (by rw [hT]; first | exact trivial | rfl) hord
     ·have ddg := hdep ⟨19, .guard⟩ (by simp) rfl
      have kg := ddg.2 _ rfl _ rfl
      have hg := hJ.vals 19 ddg.1 no_c
      rw [hT] at hg
      rw [show f 19 = .bool false from hg] at kg
      clear hg ddg
      have hord := no_ord 22 listed
      rw [if_neg (not_wanted rfl rfl rfl kg (by decide))]
      exact hJ.plain HTY (by rw [hls]; decide) (Ex.refl _) (by rw [hT]; first | exact trivial | rfl) hord
     ·have ddg := hdep ⟨19, .guard⟩ (by simp) rfl
      have kg := ddg.2 _ rfl _ rfl
      have hg := hJ.vals 19 ddg.1 no_c
      rw [hT] at hg
      rw [show f 19 = .bool false from hg] at kg
      clear hg ddg
      have hord := no_ord 23 listed
      rw [if_neg (not_wanted rfl rfl rfl kg (by decide))]
      exact hJ.plain HTY (by rw [hls]; decide) (Ex.refl _) (by rw [hT]; first | exact trivial | rfl) hord
     ·have ddg := hdep ⟨16, .guard⟩ (by simp) rfl
      have kg := ddg.2 _ rfl _ rfl
      have hg := hJ.vals 16 ddg.1 no_c
      rw [hT] at hg
      rw [show f 16 = .bool false from hg] at kg
      clear hg ddg
      rw [if_pos (wanted_of rfl rfl rfl kg)]
      clear kg
      intro K hK
      have dd114 := hdep ⟨19, .data⟩ (by simp) rfl
      have q114 := dd114.2 _ rfl _ rfl
      have h114 := hJ.vals 19 dd114.1 no_c
      rw [hT] at h114
      rw [show f 19 = .bool false from h114] at q114
      clear h114
      clear dd114
      have dd118 := hdep ⟨23, .data⟩ (by simp) rfl
      have q118 := dd118.2 _ rfl _ rfl
      have h118 := hJ.vals 23 dd118.1 no_c
      rw [hT] at h118
      rw [show f 23 = undef from h118] at q118
      clear h118
      clear dd118
      have hord := no_ord 24 listed
      rw [Array.getD_eq_getD_getElem?] at q114
      rw [Array.getD_eq_getD_getElem?] at q118
      clear hsz hdep hout hlat
      go_simp
      exact hK _ _ (hJ.plain HTY (by rw [hls]; decide) (Ex.refl _) (by rw [hT]; first | rfl | exact int_eq (by omega) | exact int_eq (by rw [IntKind.wrap_i64]; omega)) hord)
     ·rw [if_pos (by rfl)]
      intro K hK
      have dd111 := hdep ⟨16, .data⟩ (by simp) rfl
      have q111 := dd111.2 _ rfl _ rfl
      have h111 := hJ.vals 16 dd111.1 no_c
      rw [hT] at h111
      rw [show f 16 = .bool false from h111] at q111
      clear h111
      clear dd111
      have dd119 := hdep ⟨24, .data⟩ (by simp) rfl
      have q119 := dd119.2 _ rfl _ rfl
      have h119 := hJ.vals 24 dd119.1 no_c
      rw [hT] at h119
      rw [show f 24 = .bool false from h119] at q119
      clear h119
      clear dd119
      have hord := no_ord 25 listed
      rw [Array.getD_eq_getD_getElem?] at q111
      rw [Array.getD_eq_getD_getElem?] at q119
      clear hsz hdep hout hlat
      go_simp
      exact hK _ _ (hJ.plain HTY (by rw [hls]; decide) (Ex.refl _) (by rw [hT]; first | rfl | exact int_eq (by omega) | exact int_eq (by rw [IntKind.wrap_i64]; omega)) hord)
    ·intro listed f w3 hall hJ
     have f25 : f 25 = .bool false := by
      have h := hJ.vals 25 (hall 25 (by simp)) no_c
      rw [hT] at h; exact h
     have xk := hJ.ext
     simp only [putAll, Act.put, List.setIfInBounds_toArray, List.set_cons_zero, List.set_cons_succ, Nat.zero_add, Nat.reduceAdd]
     rw [f25]
     clear f25
     clear hJ hall hT HTY
     generalize f 0 = y0
     generalize f 1 = y1
     generalize f 2 = y2
     generalize f 3 = y3
     generalize f 4 = y4
     generalize f 5 = y5
     generalize f 6 = y6
     generalize f 7 = y7
     generalize f 8 = y8
     generalize f 9 = y9
     generalize f 10 = y10
     generalize f 11 = y11
     generalize f 12 = y12
     generalize f 13 = y13
     generalize f 14 = y14
     generalize f 15 = y15
     generalize f 16 = y16
     generalize f 17 = y17
     generalize f 18 = y18
     generalize f 19 = y19
     generalize f 20 = y20
     generalize f 21 = y21
     generalize f 22 = y22
     generalize f 23 = y23
     generalize f 24 = y24
     replace P := Lib.hid (P.out.ext (show Ex wh w3 from xk.below))
     clear xk
     go_wp2_with (first | (with_reducible refine stop_load (t := 30) ?_) | (with_reducible refine stop_store (t := 30) ?_) | (with_reducible refine stop_load (t := 24) ?_) | (with_reducible refine stop_store (t := 24) ?_) | (with_reducible refine stop_load (t := 48) ?_) | (with_reducible refine stop_store (t := 48) ?_) | (with_reducible refine stop_load (t := 51) ?_) | (with_reducible refine stop_store (t := 51) ?_) | (with_reducible refine stop_build (t := 30) ?_) | (with_reducible refine stop_bs (t := 59) ?_) | (with_reducible refine stop_app ?_))
     have CL := tlen_any D rv vs w3 P.out.tb
     rw [P.out.len] at CL
     rw [← HN.out] at CL
     refine CL.mono ?_
     rintro e wl ⟨rfl, hwl⟩
     subst hwl
     clear CL
     go_wp2_with (first | (with_reducible refine stop_load (t := 30) ?_) | (with_reducible refine stop_store (t := 30) ?_) | (with_reducible refine stop_load (t := 24) ?_) | (with_reducible refine stop_store (t := 24) ?_) | (with_reducible refine stop_load (t := 48) ?_) | (with_reducible refine stop_store (t := 48) ?_) | (with_reducible refine stop_load (t := 51) ?_) | (with_reducible refine stop_store (t := 51) ?_) | (with_reducible refine stop_build (t := 30) ?_) | (with_reducible refine stop_bs (t := 59) ?_) | (with_reducible refine stop_app ?_))
     refine (tall_any D rv vs w3 P.out.tb).mono ?_
     rintro e wt ⟨vt, ts, rfl, hvr, hc2, x5⟩
     obtain ⟨adt, capt, rfl, hit, hct9⟩ := hvr.inn2
     replace P := Lib.hid (P.out.ext x5)
     have HTS := Lib.hid hvr
     have HC2 := Lib.hid hc2
     have HCT9 := Lib.hid hct9
     clear hvr hc2 x5 hit hct9
     go_wp2_with (first | (with_reducible refine stop_load (t := 30) ?_) | (with_reducible refine stop_store (t := 30) ?_) | (with_reducible refine stop_load (t := 24) ?_) | (with_reducible refine stop_store (t := 24) ?_) | (with_reducible refine stop_load (t := 48) ?_) | (with_reducible refine stop_store (t := 48) ?_) | (with_reducible refine stop_load (t := 51) ?_) | (with_reducible refine stop_store (t := 51) ?_) | (with_reducible refine stop_build (t := 30) ?_) | (with_reducible refine stop_bs (t := 59) ?_) | (with_reducible refine stop_app ?_))
     obtain ⟨ad8, cap8, e8, hin8, hc8⟩ := P.out.inn
     rw [← HN.out] at e8
     cases e8
     have CV := rvs_any adt _ capt _ ts ms HCT9.out hc8 wt HTS.out.rd.1 hin8 HTS.out.vis P.out.vis
     rw [← HN.out] at CV
     rw [decide_eq_true (HC2.out.trans P.out.ct)] at CV
     refine CV.mono ?_
     rintro e wu ⟨rfl, x9⟩
     replace P := Lib.hid (P.out.ext x9)
     clear CV x9 HTS HC2 HCT9 hin8 hc8
     go_wp2_with (first | (with_reducible refine stop_load (t := 30) ?_) | (with_reducible refine stop_store (t := 30) ?_) | (with_reducible refine stop_load (t := 24) ?_) | (with_reducible refine stop_store (t := 24) ?_) | (with_reducible refine stop_load (t := 48) ?_) | (with_reducible refine stop_store (t := 48) ?_) | (with_reducible refine stop_load (t := 51) ?_) | (with_reducible refine stop_store (t := 51) ?_) | (with_reducible refine stop_build (t := 30) ?_) | (with_reducible refine stop_bs (t := 59) ?_) | (with_reducible refine stop_app ?_))
     refine ⟨⟨_, rv, k + 1, vs, ms, ⟨by omega, P⟩, rfl, rfl, rfl, rfl, rfl, rfl, rfl⟩, by simp [p12M, intOf]; omega⟩
end Go.Proofs.Ytedljddjmojeeaa
