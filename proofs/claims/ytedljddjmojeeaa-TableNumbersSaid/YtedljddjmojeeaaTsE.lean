/- play of chapter 12 walked -/
import Derived.Test.YtedljddjmojeeaaTs
namespace Go.Proofs.Ytedljddjmojeeaa
open Go.RowKit
set_option maxHeartbeats 4000000 in
set_option maxRecDepth 100000 in
theorem p12_E (w : World) (ad : Option Addr) (cap n : Nat) (l : List At) (D : Nat) (mv : Value) (rv : Value) (k : Nat) (vs : List Vt) (ms : List Vt) (y : Nat → Value) (wr : World) (hk : k ≤ n) (P : Hid (PS w wr D rv vs mv ms)) (hL : n ≤ 9223372036854775807) (hin : Atp.In ad cap l w) (hnl : n = l.length) (hk50 : k < 50) (A : At) (hA : l[k]? = some A) (hlt : k < n) (hkind : A.kind = 5) (h6 : ¬ A.v.id.tmod 7 = 6) (hsm : A.l.length ≤ 6)  (Q0 : Exit → Act → World → Prop) (hexit : ∀ a' w'', p12I w ad cap n l D a' w'' → Q0 (.exit 0) a' w'') :
  Code.wp Try.prog p12Body (Exit.then (fun a' w'' => p12I w ad cap n l D a' w'' ∧ p12M n a' w'' < p12M n ⟨#[.slice ad n cap, y 1, .bool false, .pointer (some ⟨D, 0, none⟩), mv, .int .i64 k, y 6, y 7, y 8, y 9, y 10, y 11, y 12, y 13, y 14, y 15, y 16, y 17, y 18, y 19, y 20, y 21, y 22, y 23, y 24, y 25, y 26, y 27, y 28, y 29, y 30, y 31, y 32, y 33, y 34, y 35, y 36, y 37, y 38, y 39, y 40, y 41, y 42, y 43, y 44, y 45, y 46, y 47, y 48, y 49, y 50, y 51, y 52, y 53, y 54, y 55, y 56, y 57, y 58, y 59, y 60, y 61, y 62, y 63, y 64, y 65, y 66, y 67, y 68, y 69, y 70, y 71, y 72, y 73, y 74, y 75, y 76, y 77, y 78, y 79, y 80, y 81, y 82, y 83, y 84, y 85, y 86, y 87, y 88, y 89, y 90, y 91, y 92, y 93, y 94, y 95, y 96, y 97, y 98, y 99, y 100, y 101, y 102, y 103, y 104, y 105, y 106, y 107, y 108, y 109, y 110, y 111, y 112, y 113, y 114, y 115, y 116, y 117, y 118, y 119, y 120, y 121, y 122, y 123, y 124, y 125, y 126, y 127, y 128, y 129, y 130, y 131, y 132, y 133, y 134, y 135, y 136, y 137, y 138, y 139, y 140, y 141, y 142, y 143, y 144, y 145, y 146, y 147, y 148, y 149, y 150, y 151, y 152, y 153, y 154, y 155, y 156, y 157, y 158, y 159, y 160, y 161, y 162, y 163, y 164, y 165, y 166, y 167, y 168, y 169, y 170, y 171, y 172, y 173, y 174, y 175, y 176, y 177, y 178], []⟩ wr) Q0) ⟨#[.slice ad n cap, y 1, .bool false, .pointer (some ⟨D, 0, none⟩), mv, .int .i64 k, y 6, y 7, y 8, y 9, y 10, y 11, y 12, y 13, y 14, y 15, y 16, y 17, y 18, y 19, y 20, y 21, y 22, y 23, y 24, y 25, y 26, y 27, y 28, y 29, y 30, y 31, y 32, y 33, y 34, y 35, y 36, y 37, y 38, y 39, y 40, y 41, y 42, y 43, y 44, y 45, y 46, y 47, y 48, y 49, y 50, y 51, y 52, y 53, y 54, y 55, y 56, y 57, y 58, y 59, y 60, y 61, y 62, y 63, y 64, y 65, y 66, y 67, y 68, y 69, y 70, y 71, y 72, y 73, y 74, y 75, y 76, y 77, y 78, y 79, y 80, y 81, y 82, y 83, y 84, y 85, y 86, y 87, y 88, y 89, y 90, y 91, y 92, y 93, y 94, y 95, y 96, y 97, y 98, y 99, y 100, y 101, y 102, y 103, y 104, y 105, y 106, y 107, y 108, y 109, y 110, y 111, y 112, y 113, y 114, y 115, y 116, y 117, y 118, y 119, y 120, y 121, y 122, y 123, y 124, y 125, y 126, y 127, y 128, y 129, y 130, y 131, y 132, y 133, y 134, y 135, y 136, y 137, y 138, y 139, y 140, y 141, y 142, y 143, y 144, y 145, y 146, y 147, y 148, y 149, y 150, y 151, y 152, y 153, y 154, y 155, y 156, y 157, y 158, y 159, y 160, y 161, y 162, y 163, y 164, y 165, y 166, y 167, y 168, y 169, y 170, y 171, y 172, y 173, y 174, y 175, y 176, y 177, y 178], []⟩ wr := by
 conv => arg 2; whnf
 have HIN := Lib.hid hin
 have HNL := Lib.hid hnl
 clear hin hnl
 obtain ⟨aa, oa, rfl, haa, hra⟩ := HIN.out.read (by rw [← HNL.out]; omega)
 have HAR := Lib.hid (hra k A hA)
 have HAI := Lib.hid (HIN.out.ins k A hA)
 have HAA := Lib.hid haa
 clear hra haa hA
 obtain ⟨adm, capm, rfl, hmi, hmc⟩ := P.out.inn
 have HMC := Lib.hid hmc
 clear hmi hmc
 obtain ⟨N, hN⟩ : ∃ N, N = ms.length := ⟨_, rfl⟩
 have hN4 : N ≤ 4 := by rw [hN, ← P.out.len]; exact P.out.tb.len
 rw [← hN] at P ⊢
 have HN := Lib.hid hN
 clear hN
 have q0 : (0 : Int) ≤ (k : Int) := by omega
 have q1 : (k : Int) < (n : Int) := by omega
 have q2 : (k : Int) < 50 := by omega
 go_wp2_with (first | (with_reducible refine stop_load (t := 30) ?_) | (with_reducible refine stop_store (t := 30) ?_) | (with_reducible refine stop_load (t := 24) ?_) | (with_reducible refine stop_store (t := 24) ?_) | (with_reducible refine stop_load (t := 48) ?_) | (with_reducible refine stop_store (t := 48) ?_) | (with_reducible refine stop_load (t := 51) ?_) | (with_reducible refine stop_store (t := 51) ?_) | (with_reducible refine stop_build (t := 30) ?_) | (with_reducible refine stop_bs (t := 59) ?_) | (with_reducible refine stop_app ?_))
 (with_reducible refine ⟨?_⟩); (with_reducible refine at_any ?_ ?_); (focus go_simp); refine fun K0 hK => ld_at _ aa (oa + k * 52) A HAI.out.raw.ok rfl rfl (fun j u hu => (Below.cell (p := ⟨aa, oa + k * 52 + j, none⟩) P.out.ex HAA.out).trans (HAR.out j u hu)) (hK _ _ ?_)
 clear hK
 go_wp2_with (first | (with_reducible refine stop_load (t := 30) ?_) | (with_reducible refine stop_store (t := 30) ?_) | (with_reducible refine stop_load (t := 24) ?_) | (with_reducible refine stop_store (t := 24) ?_) | (with_reducible refine stop_load (t := 48) ?_) | (with_reducible refine stop_store (t := 48) ?_) | (with_reducible refine stop_load (t := 51) ?_) | (with_reducible refine stop_store (t := 51) ?_) | (with_reducible refine stop_build (t := 30) ?_) | (with_reducible refine stop_bs (t := 59) ?_) | (with_reducible refine stop_app ?_))
 (with_reducible refine ⟨?_⟩); (with_reducible refine at_any ?_ ?_); (focus go_simp); refine fun K0 hK => st_at _ _ wr.heap.size A HAI.out.raw.ok rfl rfl rfl (Bk.new rfl _ _) (by rfl) (fun w2 hd9 ho => hK _ _ ?_)
 clear hK
 have xx : Ex wr w2 := ho.below wr.heap.size (Nat.le_refl _) wr (Ex.alloc wr _)
 replace P := Lib.hid (P.out.ext xx)
 obtain ⟨g, hg⟩ : ∃ g, g = wr.heap.size := ⟨_, rfl⟩
 rw [← hg] at hd9 ⊢
 have GA : Hid (AB w2 g A) := Lib.hid ⟨hd9⟩
 clear xx ho hd9 hg
 obtain ⟨c9, hand, hc9⟩ := and_mask A.v.id 7 (by decide)
 obtain ⟨u, hu⟩ : ∃ u : UInt8, u.toNat = c9 := ⟨UInt8.ofNat c9, by rw [UInt8.toNat_ofNat']; exact Nat.mod_eq_of_lt (by omega)⟩
 rw [← hu] at hand hc9
 have hmask : bits BinOp.and IntKind.i64 A.v.id 7 % 256 = ((u.toNat : Nat) : Int) := by rw [show bits BinOp.and IntKind.i64 A.v.id 7 = ((u.toNat : Nat) : Int) from hand]; omega
 have HMK := Lib.hid hmask
 clear hu hand hc9 hmask
 go_wp2_with (first | (with_reducible refine stop_load (t := 30) ?_) | (with_reducible refine stop_store (t := 30) ?_) | (with_reducible refine stop_load (t := 24) ?_) | (with_reducible refine stop_store (t := 24) ?_) | (with_reducible refine stop_load (t := 48) ?_) | (with_reducible refine stop_store (t := 48) ?_) | (with_reducible refine stop_load (t := 51) ?_) | (with_reducible refine stop_store (t := 51) ?_) | (with_reducible refine stop_build (t := 30) ?_) | (with_reducible refine stop_bs (t := 59) ?_) | (with_reducible refine stop_app ?_))
 (with_reducible refine ⟨?_⟩); (with_reducible refine at_any ?_ ?_); (focus go_simp); refine fun K0 hK => ld_kv _ g 1 A.v rfl rfl GA.out.kv (hK _ _ ?_)
 clear hK
 obtain ⟨d0, d1, d9⟩ := GA.out.cells
 go_wp2_with (first | (with_reducible refine stop_load (t := 30) ?_) | (with_reducible refine stop_store (t := 30) ?_) | (with_reducible refine stop_load (t := 24) ?_) | (with_reducible refine stop_store (t := 24) ?_) | (with_reducible refine stop_load (t := 48) ?_) | (with_reducible refine stop_store (t := 48) ?_) | (with_reducible refine stop_load (t := 51) ?_) | (with_reducible refine stop_store (t := 51) ?_) | (with_reducible refine stop_build (t := 30) ?_) | (with_reducible refine stop_bs (t := 59) ?_) | (with_reducible refine stop_app ?_))
 rw [HMK.out]
 refine (kv_any A.v [u, 0, 0, 0] rfl w2 (HAI.out.v.ext P.out.ex)).mono ?_
 rintro e wz ⟨z, rfl, hzn, -, -, x3⟩
 have HZ := Lib.hid hzn
 replace GA := Lib.hid (GA.out.ext x3)
 replace P := Lib.hid (P.out.ext x3)
 clear hzn x3 d0 d1 d9 HMK
 go_wp2_with (first | (with_reducible refine stop_load (t := 30) ?_) | (with_reducible refine stop_store (t := 30) ?_) | (with_reducible refine stop_load (t := 24) ?_) | (with_reducible refine stop_store (t := 24) ?_) | (with_reducible refine stop_load (t := 48) ?_) | (with_reducible refine stop_store (t := 48) ?_) | (with_reducible refine stop_load (t := 51) ?_) | (with_reducible refine stop_store (t := 51) ?_) | (with_reducible refine stop_build (t := 30) ?_) | (with_reducible refine stop_bs (t := 59) ?_) | (with_reducible refine stop_app ?_))
 (with_reducible refine ⟨?_⟩); (with_reducible refine at_any ?_ ?_); (focus go_simp); refine fun K0 hK => st_v _ _ wz.heap.size z rfl rfl rfl HZ.out.ok (Bk.new rfl _ _) (by rfl) (fun wv hd ho => hK _ _ ?_)
 clear hK
 have xx : Ex wz wv := ho.below wz.heap.size (Nat.le_refl _) wz (Ex.alloc wz _)
 obtain ⟨gv, hgv⟩ : ∃ g, g = wz.heap.size := ⟨_, rfl⟩
 have HRG : Hid (rv.ownBlock ≠ some gv) := Lib.hid (fun e => by have := P.out.tb.row.own_lt e; omega)
 rw [← hgv] at hd ⊢
 obtain ⟨x, hx⟩ : ∃ x, x = z := ⟨_, rfl⟩
 rw [← hx] at hd
 have EX : Hid (EL w wv x) := Lib.hid (by rw [hx]; exact (HZ.out.ext xx).el)
 clear hx hgv
 replace GA := Lib.hid (GA.out.ext xx)
 replace P := Lib.hid (P.out.ext xx)
 have GV := Lib.hid hd
 clear hd ho xx HZ
 have d1 := GA.out.cells.2.1
 go_wp2_with (first | (with_reducible refine stop_load (t := 30) ?_) | (with_reducible refine stop_store (t := 30) ?_) | (with_reducible refine stop_load (t := 24) ?_) | (with_reducible refine stop_store (t := 24) ?_) | (with_reducible refine stop_load (t := 48) ?_) | (with_reducible refine stop_store (t := 48) ?_) | (with_reducible refine stop_load (t := 51) ?_) | (with_reducible refine stop_store (t := 51) ?_) | (with_reducible refine stop_build (t := 30) ?_) | (with_reducible refine stop_bs (t := 59) ?_) | (with_reducible refine stop_app ?_))
 go_loopw [8, 9] (fun kk j wr => ∃ (jn : Nat) (kn : Int), jn ≤ N ∧ j = .int .i64 jn ∧ kk = .int .i64 kn ∧ Hid (KS ms (idn x.id) jn kn) ∧ Hid (Ex wv wr)) (fun _ j _ => N - (intOf j).toNat)
 case atStart => exact ⟨0, -1, by omega, rfl, rfl, Lib.hid (Or.inl ⟨rfl, fun q hq => absurd hq (Nat.not_lt_zero q)⟩), Lib.hid (Ex.refl _)⟩
 case round =>
  obtain ⟨j, kn, hj, rfl, rfl, HK, BX⟩ := hrel
  by_cases hlj : j < N
  ·have r0 : (0 : Int) ≤ (j : Int) := by omega
   have r1 : (j : Int) < (N : Int) := by omega
   obtain ⟨y, hy⟩ : ∃ y, ms[j]? = some y := ⟨_, List.getElem?_eq_getElem (by rw [← HN.out]; omega)⟩
   obtain ⟨ad9, cap9, e9, hin9, _⟩ := P.out.inn
   rw [← HN.out] at e9
   cases e9
   obtain ⟨am, om, rfl, ham, hrm⟩ := hin9.read (by rw [← HN.out]; omega)
   have YR := Lib.hid (range_ex (hrm j y hy) BX.out ham)
   have HAM := Lib.hid (Nat.lt_of_lt_of_le ham BX.out.sz')
   have YO := Lib.hid (hin9.ok j y hy)
   have HFJ := Lib.hid (idF_at ms j y hy)
   obtain ⟨b, hb⟩ : ∃ b, b = decide (y.id = x.id) := ⟨_, rfl⟩
   have HB := Lib.hid hb
   clear hin9 ham hrm hy hb
   go_wp2_with (first | (with_reducible refine stop_load (t := 30) ?_) | (with_reducible refine stop_store (t := 30) ?_) | (with_reducible refine stop_load (t := 24) ?_) | (with_reducible refine stop_store (t := 24) ?_) | (with_reducible refine stop_load (t := 48) ?_) | (with_reducible refine stop_store (t := 48) ?_) | (with_reducible refine stop_load (t := 51) ?_) | (with_reducible refine stop_store (t := 51) ?_) | (with_reducible refine stop_build (t := 30) ?_) | (with_reducible refine stop_bs (t := 59) ?_) | (with_reducible refine stop_app ?_))
   obtain ⟨T, hT⟩ : ∃ T : List (Rw wr.heap.size), T = [.is (.slice (some ⟨am, om, none⟩) N capm), .is (.int .i64 j), .is (.pointer (some ⟨am, om + j * 42, none⟩)), .is (.pointer (some ⟨am, om + j * 42, none⟩)), .is (digV y.id), .is (.pointer (some ⟨gv, 0, none⟩)), .is (digV x.id), .is (.bool b)] := ⟨_, rfl⟩
   have HTY : T.map Rw.tys = ([[], [], [], [], [], [], [], []] : List (List Nat)) := by rw [hT]; rfl
   refine wp_region_gen (JW wr.heap.size wr [0] T ([[], [], [], [], [], [], [], []] : List (List Nat)) ([none, none, none, none, none, none, none, none] : List (Option Nat)) ([] : List (Nat × Nat)) 100000) (by kernel_rfl) (by kernel_rfl) (by kernel_rfl) (fitB_spec (by kernel_rfl)) (fun listed f h => JW.start (Nat.le_refl _) listed f h) ?_ ?_
   ·intro i o ho
    have hi : i < 8 := (Array.getElem?_eq_some_iff.1 ho).1
    have hi' : i = 0 ∨ i = 1 ∨ i = 2 ∨ i = 3 ∨ i = 4 ∨ i = 5 ∨ i = 6 ∨ i = 7 := by omega
    clear hi
    rcases hi' with rfl | rfl | rfl | rfl | rfl | rfl | rfl | rfl
    all_goals (simp only [List.getElem?_toArray, List.getElem?_cons_zero, List.getElem?_cons_succ, Option.some.injEq] at ho; subst ho; intro listed f a w3 hJ hsz hls hun hdep hout hlat)
    ·rw [if_pos (by rfl)]
     intro K hK
     have q4 := hout 4 (outB_spec (by kernel_rfl))
     have hord := no_ord 0 listed
     refine wp_mv _ rfl (hK _ _ ?_)
     rw [show a.eval (.tmp 4) = .slice (some ⟨am, om, none⟩) N capm from q4]
     exact hJ.plain HTY (by rw [hls]; decide) (Ex.refl _) (by rw [hT]; rfl) hord
    ·rw [if_pos (by rfl)]
     intro K hK
     have q9 := hout 9 (outB_spec (by kernel_rfl))
     have hord := no_ord 1 listed
     refine wp_mv _ rfl (hK _ _ ?_)
     rw [show a.eval (.tmp 9) = .int .i64 j from q9]
     exact hJ.plain HTY (by rw [hls]; decide) (Ex.refl _) (by rw [hT]; rfl) hord
    ·rw [if_pos (by rfl)]
     intro K hK
     have dd55 := hdep ⟨0, .data⟩ (by simp) rfl
     have q55 := dd55.2 _ rfl _ rfl
     have h55 := hJ.vals 0 dd55.1 no_c
     rw [hT] at h55
     rw [show f 0 = .slice (some ⟨am, om, none⟩) N capm from h55] at q55
     clear h55
     clear dd55
     have dd56 := hdep ⟨1, .data⟩ (by simp) rfl
     have q56 := dd56.2 _ rfl _ rfl
     have h56 := hJ.vals 1 dd56.1 no_c
     rw [hT] at h56
     rw [show f 1 = .int .i64 j from h56] at q56
     clear h56
     clear dd56
     have hord := no_ord 2 listed
     rw [Array.getD_eq_getD_getElem?] at q55
     rw [Array.getD_eq_getD_getElem?] at q56
     clear hsz hdep hout hlat
     go_simp
     exact hK _ _ (hJ.plain HTY (by rw [hls]; decide) (Ex.refl _) (by rw [hT]; first | rfl | exact int_eq (by omega) | exact int_eq (by rw [IntKind.wrap_i64]; omega)) hord)
    ·rw [if_pos (by rfl)]
     intro K hK
     have dd57 := hdep ⟨2, .data⟩ (by simp) rfl
     have q57 := dd57.2 _ rfl _ rfl
     have h57 := hJ.vals 2 dd57.1 no_c
     rw [hT] at h57
     rw [show f 2 = .pointer (some ⟨am, om + j * 42, none⟩) from h57] at q57
     clear h57
     clear dd57
     have hord := no_ord 3 listed
     rw [Array.getD_eq_getD_getElem?] at q57
     clear hsz hdep hout hlat
     go_simp
     exact hK _ _ (hJ.plain HTY (by rw [hls]; decide) (Ex.refl _) (by rw [hT]; first | rfl | exact int_eq (by omega) | exact int_eq (by rw [IntKind.wrap_i64]; omega)) hord)
    ·rw [if_pos (by rfl)]
     intro K hK
     have dd58 := hdep ⟨3, .data⟩ (by simp) rfl
     have q58 := dd58.2 _ rfl _ rfl
     have h58 := hJ.vals 3 dd58.1 no_c
     rw [hT] at h58
     rw [show f 3 = .pointer (some ⟨am, om + j * 42, none⟩) from h58] at q58
     clear h58
     clear dd58
     have hord := no_ord 4 listed
     exact ld_vidr (.tmp 58) am (om + j * 42) y YO.out rfl q58 (range_ex YR.out hJ.ext.below HAM.out) (hK _ _ (hJ.plain HTY (by rw [hls]; decide) (Ex.refl _) (by rw [hT]; rfl) hord))
    ·rw [if_pos (by rfl)]
     intro K hK
     have q7 := hout 7 (outB_spec (by kernel_rfl))
     have hord := no_ord 5 listed
     rw [Array.getD_eq_getD_getElem?] at q7
     clear hsz hdep hout hlat
     go_simp
     exact hK _ _ (hJ.plain HTY (by rw [hls]; decide) (Ex.refl _) (by rw [hT]; first | rfl | exact int_eq (by omega) | exact int_eq (by rw [IntKind.wrap_i64]; omega)) hord)
    ·rw [if_pos (by rfl)]
     intro K hK
     have dd60 := hdep ⟨5, .data⟩ (by simp) rfl
     have q60 := dd60.2 _ rfl _ rfl
     have h60 := hJ.vals 5 dd60.1 no_c
     rw [hT] at h60
     rw [show f 5 = .pointer (some ⟨gv, 0, none⟩) from h60] at q60
     clear h60
     clear dd60
     have hord := no_ord 6 listed
     exact ld_vid (.tmp 60) gv x rfl q60 (GV.out.ext (Ex.trans BX.out hJ.ext.below)) (hK _ _ (hJ.plain HTY (by rw [hls]; decide) (Ex.refl _) (by rw [hT]; rfl) hord))
    ·rw [if_pos (by rfl)]
     intro K hK
     have dd59 := hdep ⟨4, .data⟩ (by simp) rfl
     have q59 := dd59.2 _ rfl _ rfl
     have h59 := hJ.vals 4 dd59.1 no_c
     rw [hT] at h59
     rw [show f 4 = digV y.id from h59] at q59
     clear h59
     clear dd59
     have dd61 := hdep ⟨6, .data⟩ (by simp) rfl
     have q61 := dd61.2 _ rfl _ rfl
     have h61 := hJ.vals 6 dd61.1 no_c
     rw [hT] at h61
     rw [show f 6 = digV x.id from h61] at q61
     clear h61
     clear dd61
     have hord := no_ord 7 listed
     refine wp_eql_id _ _ _ rfl y.id x.id YO.out.idN GV.out.1.idN q59 q61 ?_
     rw [← HB.out]
     exact hK _ _ (hJ.plain HTY (by rw [hls]; decide) (Ex.refl _) (by rw [hT]; rfl) hord)
   ·intro listed f w3 hall hJ
    have f7 : f 7 = .bool b := by
     have h := hJ.vals 7 (hall 7 (by simp)) no_c
     rw [hT] at h; exact h
    have xk := hJ.ext
    simp only [putAll, Act.put, List.setIfInBounds_toArray, List.set_cons_zero, List.set_cons_succ, Nat.zero_add, Nat.reduceAdd]
    rw [f7]
    clear f7
    clear hJ hall hT HTY
    generalize f 0 = y0
    generalize f 1 = y1
    generalize f 2 = y2
    generalize f 3 = y3
    generalize f 4 = y4
    generalize f 5 = y5
    generalize f 6 = y6
    replace BX := Lib.hid (Ex.trans BX.out (show Ex wr w3 from xk.below))
    clear xk
    cases b
    ·have hne : idF ms j ≠ idn x.id := by
      rw [HFJ.out]; exact fun e => of_decide_eq_false HB.out.symm (idn_inj YO.out.idN GV.out.1.idN e)
     have HNE := Lib.hid hne
     clear hne
     go_wp2_with (first | (with_reducible refine stop_load (t := 30) ?_) | (with_reducible refine stop_store (t := 30) ?_) | (with_reducible refine stop_load (t := 24) ?_) | (with_reducible refine stop_store (t := 24) ?_) | (with_reducible refine stop_load (t := 48) ?_) | (with_reducible refine stop_store (t := 48) ?_) | (with_reducible refine stop_load (t := 51) ?_) | (with_reducible refine stop_store (t := 51) ?_) | (with_reducible refine stop_build (t := 30) ?_) | (with_reducible refine stop_bs (t := 59) ?_) | (with_reducible refine stop_app ?_))
     (first | (refine ⟨?_, ?measure⟩; (repeat apply Exists.intro); refine ⟨?rel, rfl⟩) | refine ⟨?rel, ?measure⟩)
     case rel => exact ⟨j + 1, kn, by omega, by go_num, rfl, Lib.hid (by
           rcases HK.out with ⟨h1, h2⟩ | ⟨p, h1, h2, h3⟩
           ·exact Or.inl ⟨h1, fun q hq => by
             rcases Nat.eq_or_lt_of_le (Nat.le_of_lt_succ hq) with h | h
             ·rw [h]; exact HNE.out
             ·exact h2 q h⟩
           ·exact Or.inr ⟨p, by omega, h2, h3⟩), BX⟩
     case measure => simp [intOf]; omega
    ·have heq : idF ms j = idn x.id := by rw [HFJ.out, of_decide_eq_true HB.out.symm]
     have HEQ := Lib.hid heq
     clear heq
     go_wp2_with (first | (with_reducible refine stop_load (t := 30) ?_) | (with_reducible refine stop_store (t := 30) ?_) | (with_reducible refine stop_load (t := 24) ?_) | (with_reducible refine stop_store (t := 24) ?_) | (with_reducible refine stop_load (t := 48) ?_) | (with_reducible refine stop_store (t := 48) ?_) | (with_reducible refine stop_load (t := 51) ?_) | (with_reducible refine stop_store (t := 51) ?_) | (with_reducible refine stop_build (t := 30) ?_) | (with_reducible refine stop_bs (t := 59) ?_) | (with_reducible refine stop_app ?_))
     (first | (refine ⟨?_, ?measure⟩; (repeat apply Exists.intro); refine ⟨?rel, rfl⟩) | refine ⟨?rel, ?measure⟩)
     case rel => exact ⟨j + 1, (j : Int), by omega, by go_num, rfl, Lib.hid (Or.inr ⟨j, by omega, rfl, HEQ.out⟩), BX⟩
     case measure => simp [intOf]; omega
  ·obtain rfl : N = j := by omega
   have r1 : ¬ (N : Int) < (N : Int) := by omega
   skip
   replace P := Lib.hid (P.out.ext BX.out)
   replace GA := Lib.hid (GA.out.ext BX.out)
   replace GV := Lib.hid (GV.out.ext BX.out)
   replace EX := Lib.hid (EX.out.ext BX.out)
   clear BX
   skip
   have d0 := GA.out.cells.1
   rw [hkind] at d0
   have HWB : Hid (w.heap.size ≤ wr.heap.size) := Lib.hid P.out.ex.sz'
   have hk4 : ¬ (5 : Int) = 4 := by decide
   obtain ⟨nl, hnl2⟩ : ∃ x, x = A.l.length := ⟨_, rfl⟩
   have d9 := GA.out.cells.2.2
   rw [← hnl2] at d9 hsm
   have HNL2 := Lib.hid hnl2
   have hnlm : nl ≤ 9223372036854775807 := by rw [hnl2]; exact HAI.out.ln
   clear hnl2 HK GV EX
   go_wp2_with (first | (with_reducible refine stop_load (t := 30) ?_) | (with_reducible refine stop_store (t := 30) ?_) | (with_reducible refine stop_load (t := 24) ?_) | (with_reducible refine stop_store (t := 24) ?_) | (with_reducible refine stop_load (t := 48) ?_) | (with_reducible refine stop_store (t := 48) ?_) | (with_reducible refine stop_load (t := 51) ?_) | (with_reducible refine stop_store (t := 51) ?_) | (with_reducible refine stop_build (t := 30) ?_) | (with_reducible refine stop_bs (t := 59) ?_) | (with_reducible refine stop_app ?_))
   obtain ⟨wb, hwb⟩ : ∃ u : World, u = wr := ⟨_, rfl⟩
   rw [← hwb] at P GA d0 d9 HWB ⊢
   clear hwb
   go_loopw [12, 13] (fun fv i wr => ∃ (j : Nat) (fs : List Vt), j ≤ 6 ∧ j ≤ nl ∧ i = .int .i64 j ∧ Hid (VRow wr wb.heap.size fv fs ∧ fs.length = j) ∧ Hid (Ex wb wr)) (fun _ i _ => 6 - (intOf i).toNat)
   case atStart => exact ⟨0, [], by omega, by omega, rfl, Lib.hid ⟨VRow.nil _ _, rfl⟩, Lib.hid (Ex.refl _)⟩
   case round =>
    obtain ⟨j, fs, hj6, hjn, rfl, VR, BX⟩ := hrel
    have d9r := (Below.cell (p := ⟨g, 9, none⟩) BX.out GA.out.blk.lt).trans d9
    by_cases hlj : j < nl
    ·have r0 : (0 : Int) ≤ (j : Int) := by omega
     have r1 : (j : Int) < (nl : Int) := by omega
     have r2 : (j : Int) < 6 := by omega
     obtain ⟨y, hy⟩ : ∃ y, A.l[j]? = some y := ⟨_, List.getElem?_eq_getElem (by rw [← HNL2.out]; omega)⟩
     obtain ⟨al, ol, hla, hal, hrl⟩ := HAI.out.l.read (by rw [← HNL2.out]; omega)
     have BW : Hid (Ex w wr) := Lib.hid (Ex.trans P.out.ex BX.out)
     have YR := Lib.hid (range_ex (hrl j y hy) BW.out hal)
     have HAL := Lib.hid (Nat.lt_of_lt_of_le hal BW.out.sz')
     have YI := Lib.hid ((HAI.out.l.ins j y hy).ext BW.out)
     rw [hla] at d9r
     have D9 := Lib.hid d9r
     obtain ⟨c9, hand, hc9⟩ := and_mask y.id 1 (by decide)
     have HND := Lib.hid (show bits BinOp.and IntKind.i64 y.id 1 = ((c9 : Nat) : Int) from hand)
     obtain ⟨u, hu⟩ : ∃ u : UInt8, u.toNat = j + c9 := ⟨UInt8.ofNat (j + c9), by rw [UInt8.toNat_ofNat']; exact Nat.mod_eq_of_lt (by omega)⟩
     have HU := Lib.hid hu
     clear hu hand hal hrl hy hla
     go_wp2_with (first | (with_reducible refine stop_load (t := 30) ?_) | (with_reducible refine stop_store (t := 30) ?_) | (with_reducible refine stop_load (t := 24) ?_) | (with_reducible refine stop_store (t := 24) ?_) | (with_reducible refine stop_load (t := 48) ?_) | (with_reducible refine stop_store (t := 48) ?_) | (with_reducible refine stop_load (t := 51) ?_) | (with_reducible refine stop_store (t := 51) ?_) | (with_reducible refine stop_build (t := 30) ?_) | (with_reducible refine stop_bs (t := 59) ?_) | (with_reducible refine stop_app ?_))
     generalize u12 = fv at *
     obtain ⟨T, hT⟩ : ∃ T : List Sx, T = [.is (fv), .is (.pointer (some ⟨g, 9, none⟩)), .is (.slice (some ⟨al, ol, none⟩) nl A.lc), .is (.int .i64 j), .is (.pointer (some ⟨al, ol + j * 8, none⟩)), .is (y.V), .is (.int .i64 j), .is (.pointer (some ⟨g, 9, none⟩)), .is (.slice (some ⟨al, ol, none⟩) nl A.lc), .is (.int .i64 j), .is (.pointer (some ⟨al, ol + j * 8, none⟩)), .is (.pointer (some ⟨al, ol + j * 8, none⟩)), .is (.int .i64 y.id), .is (.int .i64 ((c9 : Nat) : Int)), .is (.int .i64 ((j : Int) + (c9 : Int))), .is (.int .u8 ((u.toNat : Nat) : Int)), .is (digV [u, 0, 0, 0]), .of (fun v w9 => ∃ z : Vt, v = z.V ∧ TVN w9 z) (fun v _ _ h k => by obtain ⟨z, h1, h2⟩ := h; exact ⟨z, h1, h2.ext k⟩), .of (fun v w9 => ∃ (z : Vt) (b : Nat), v = .slice (some ⟨b, 0, none⟩) 1 1 ∧ Bk w9 b 30 z.C.toArray ∧ TVN w9 z) (fun v _ _ h k => by obtain ⟨z, b, h1, h2, h3⟩ := h; exact ⟨z, b, h1, h2.ext k, h3.ext k⟩), .of (fun v w9 => ∃ z : Vt, VRow w9 wb.heap.size v (fs ++ [z]) ∧ Ex wb w9) (fun v _ _ h k => by obtain ⟨z, h1, h2⟩ := h; exact ⟨z, h1.ext k, Ex.trans h2 k⟩), .of (fun v w9 => ∃ z : Vt, VRow w9 wb.heap.size v (fs ++ [z]) ∧ Ex wb w9) (fun v _ _ h k => by obtain ⟨z, h1, h2⟩ := h; exact ⟨z, h1.ext k, Ex.trans h2 k⟩)] := ⟨_, rfl⟩
     have HFX : T.map Sx.fixed = [true, true, true, true, true, true, true, true, true, true, true, true, true, true, true, true, true, false, false, false, false] := by rw [hT]; rfl
     have hFst : ∀ wa wb, (fun _ => True) wa → Ex wa wb → (fun _ => True) wb := fun _ _ _ _ => trivial
     refine wp_region_gen (JE wr T ([none, none, none, none, none, none, none, none, none, none, none, none, none, none, none, none, none, some 18, some 19, none, none] : List (Option Nat)) ([(19, 17), (17, 5), (5, 4), (4, 2), (17, 16), (16, 15), (15, 14), (14, 13), (13, 12), (12, 11), (11, 10), (10, 8), (20, 19)] : List (Nat × Nat)) 19 19 (fun _ => True)) (by kernel_rfl) (by kernel_rfl) (by kernel_rfl) (fitB_spec (by kernel_rfl)) (fun listed f h => JE.start listed f h) ?_ ?_
     ·intro i o ho
      have hi : i < 21 := (Array.getElem?_eq_some_iff.1 ho).1
      have hi' : i = 0 ∨ i = 1 ∨ i = 2 ∨ i = 3 ∨ i = 4 ∨ i = 5 ∨ i = 6 ∨ i = 7 ∨ i = 8 ∨ i = 9 ∨ i = 10 ∨ i = 11 ∨ i = 12 ∨ i = 13 ∨ i = 14 ∨ i = 15 ∨ i = 16 ∨ i = 17 ∨ i = 18 ∨ i = 19 ∨ i = 20 := by omega
      clear hi
      rcases hi' with rfl | rfl | rfl | rfl | rfl | rfl | rfl | rfl | rfl | rfl | rfl | rfl | rfl | rfl | rfl | rfl | rfl | rfl | rfl | rfl | rfl
      all_goals (simp only [List.getElem?_toArray, List.getElem?_cons_zero, List.getElem?_cons_succ, Option.some.injEq] at ho; subst ho; intro listed f a w3 hJ hsz hls hun hdep hout hlat)
      ·rw [if_pos (by rfl)]
       intro K hK
       have q12 := hlat 12 20 _ rfl rfl ⟨⟨0, .phase⟩, by simp, rfl, rfl⟩
       have hord : ∀ x ∈ ([(19, 17), (17, 5), (5, 4), (4, 2), (17, 16), (16, 15), (15, 14), (14, 13), (13, 12), (12, 11), (11, 10), (10, 8), (20, 19)] : List (Nat × Nat)), x.1 = 0 → listed.getD x.2 false = true := (by intro x hx he; simp only [List.mem_cons, List.not_mem_nil, or_false] at hx; rcases hx with rfl | rfl | rfl | rfl | rfl | rfl | rfl | rfl | rfl | rfl | rfl | rfl | rfl; all_goals first | (exact absurd he (by decide)) | assumption)
       refine wp_mv _ rfl (hK _ _ ?_)
       rw [show a.eval (.tmp 12) = fv from q12]
       exact hJ.plain (by rw [hls]; decide) hFst (by decide) (Ex.refl _) (by rw [hT]; rfl) hord
      ·rw [if_pos (by rfl)]
       intro K hK
       have q6 := hout 6 (outB_spec (by kernel_rfl))
       have hord : ∀ x ∈ ([(19, 17), (17, 5), (5, 4), (4, 2), (17, 16), (16, 15), (15, 14), (14, 13), (13, 12), (12, 11), (11, 10), (10, 8), (20, 19)] : List (Nat × Nat)), x.1 = 1 → listed.getD x.2 false = true := (by intro x hx he; simp only [List.mem_cons, List.not_mem_nil, or_false] at hx; rcases hx with rfl | rfl | rfl | rfl | rfl | rfl | rfl | rfl | rfl | rfl | rfl | rfl | rfl; all_goals first | (exact absurd he (by decide)) | assumption)
       rw [Array.getD_eq_getD_getElem?] at q6
       clear hsz hdep hout hlat
       go_simp
       exact hK _ _ (hJ.plain (by rw [hls]; decide) hFst (by decide) (Ex.refl _) (by rw [hT]; first | rfl | exact int_eq (by omega) | exact int_eq (by rw [IntKind.wrap_i64]; omega)) hord)
      ·rw [if_pos (by rfl)]
       intro K hK
       have dd135 := hdep ⟨1, .data⟩ (by simp) rfl
       have q135 := dd135.2 _ rfl _ rfl
       have h135 := hJ.vals 1 dd135.1 no_c
       rw [hT] at h135
       rw [show f 1 = .pointer (some ⟨g, 9, none⟩) from h135] at q135
       clear h135
       clear dd135
       have hord : ∀ x ∈ ([(19, 17), (17, 5), (5, 4), (4, 2), (17, 16), (16, 15), (15, 14), (14, 13), (13, 12), (12, 11), (11, 10), (10, 8), (20, 19)] : List (Nat × Nat)), x.1 = 2 → listed.getD x.2 false = true := (by intro x hx he; simp only [List.mem_cons, List.not_mem_nil, or_false] at hx; rcases hx with rfl | rfl | rfl | rfl | rfl | rfl | rfl | rfl | rfl | rfl | rfl | rfl | rfl; all_goals first | (exact absurd he (by decide)) | assumption)
       have hcut : listed.getD 19 false = false := by
        cases hc : listed.getD 19 false with
        | false => rfl
        | true =>
         have hc0 := hJ.ord (19, 17) (by simp) hc
         have hc1 := hJ.ord (17, 5) (by simp) hc0
         have hc2 := hJ.ord (5, 4) (by simp) hc1
         have hc3 := hJ.ord (4, 2) (by simp) hc2
         exact absurd hc3 (by rw [hun]; decide)
       have hpre := hJ.pre hcut
       have c1 := (Below.cell (p := ⟨g, 9, none⟩) hpre (show g < wr.heap.size from Nat.lt_of_lt_of_le GA.out.blk.lt BX.out.sz')).trans D9.out
       rw [Array.getD_eq_getD_getElem?] at q135
       clear hsz hdep hout hlat
       go_simp
       exact hK _ _ (hJ.plain (by rw [hls]; decide) hFst (by decide) (Ex.refl _) (by rw [hT]; rfl) hord)
      ·rw [if_pos (by rfl)]
       intro K hK
       have q13 := hout 13 (outB_spec (by kernel_rfl))
       have hord : ∀ x ∈ ([(19, 17), (17, 5), (5, 4), (4, 2), (17, 16), (16, 15), (15, 14), (14, 13), (13, 12), (12, 11), (11, 10), (10, 8), (20, 19)] : List (Nat × Nat)), x.1 = 3 → listed.getD x.2 false = true := (by intro x hx he; simp only [List.mem_cons, List.not_mem_nil, or_false] at hx; rcases hx with rfl | rfl | rfl | rfl | rfl | rfl | rfl | rfl | rfl | rfl | rfl | rfl | rfl; all_goals first | (exact absurd he (by decide)) | assumption)
       refine wp_mv _ rfl (hK _ _ ?_)
       rw [show a.eval (.tmp 13) = .int .i64 j from q13]
       exact hJ.plain (by rw [hls]; decide) hFst (by decide) (Ex.refl _) (by rw [hT]; rfl) hord
      ·rw [if_pos (by rfl)]
       intro K hK
       have dd136 := hdep ⟨2, .data⟩ (by simp) rfl
       have q136 := dd136.2 _ rfl _ rfl
       have h136 := hJ.vals 2 dd136.1 no_c
       rw [hT] at h136
       rw [show f 2 = .slice (some ⟨al, ol, none⟩) nl A.lc from h136] at q136
       clear h136
       clear dd136
       have dd137 := hdep ⟨3, .data⟩ (by simp) rfl
       have q137 := dd137.2 _ rfl _ rfl
       have h137 := hJ.vals 3 dd137.1 no_c
       rw [hT] at h137
       rw [show f 3 = .int .i64 j from h137] at q137
       clear h137
       clear dd137
       have hl2 := (hdep ⟨2, .data⟩ (by simp) rfl).1
       have hord : ∀ x ∈ ([(19, 17), (17, 5), (5, 4), (4, 2), (17, 16), (16, 15), (15, 14), (14, 13), (13, 12), (12, 11), (11, 10), (10, 8), (20, 19)] : List (Nat × Nat)), x.1 = 4 → listed.getD x.2 false = true := (by intro x hx he; simp only [List.mem_cons, List.not_mem_nil, or_false] at hx; rcases hx with rfl | rfl | rfl | rfl | rfl | rfl | rfl | rfl | rfl | rfl | rfl | rfl | rfl; all_goals first | (exact absurd he (by decide)) | assumption)
       rw [Array.getD_eq_getD_getElem?] at q136
       rw [Array.getD_eq_getD_getElem?] at q137
       clear hsz hdep hout hlat
       go_simp
       exact hK _ _ (hJ.plain (by rw [hls]; decide) hFst (by decide) (Ex.refl _) (by rw [hT]; first | rfl | exact int_eq (by omega) | exact int_eq (by rw [IntKind.wrap_i64]; omega)) hord)
      ·rw [if_pos (by rfl)]
       intro K hK
       have dd138 := hdep ⟨4, .data⟩ (by simp) rfl
       have q138 := dd138.2 _ rfl _ rfl
       have h138 := hJ.vals 4 dd138.1 no_c
       rw [hT] at h138
       rw [show f 4 = .pointer (some ⟨al, ol + j * 8, none⟩) from h138] at q138
       clear h138
       clear dd138
       have hl4 := (hdep ⟨4, .data⟩ (by simp) rfl).1
       have hord : ∀ x ∈ ([(19, 17), (17, 5), (5, 4), (4, 2), (17, 16), (16, 15), (15, 14), (14, 13), (13, 12), (12, 11), (11, 10), (10, 8), (20, 19)] : List (Nat × Nat)), x.1 = 5 → listed.getD x.2 false = true := (by intro x hx he; simp only [List.mem_cons, List.not_mem_nil, or_false] at hx; rcases hx with rfl | rfl | rfl | rfl | rfl | rfl | rfl | rfl | rfl | rfl | rfl | rfl | rfl; all_goals first | (exact absurd he (by decide)) | assumption)
       have hcut : listed.getD 19 false = false := by
        cases hc : listed.getD 19 false with
        | false => rfl
        | true =>
         have hc0 := hJ.ord (19, 17) (by simp) hc
         have hc1 := hJ.ord (17, 5) (by simp) hc0
         exact absurd hc1 (by rw [hun]; decide)
       have hpre := hJ.pre hcut
       exact ld_kv (.tmp 138) al (ol + j * 8) y rfl q138 (range_ex YR.out hpre HAL.out) (hK _ _ (hJ.plain (by rw [hls]; decide) hFst (by decide) (Ex.refl _) (by rw [hT]; rfl) hord))
      ·rw [if_pos (by rfl)]
       intro K hK
       have q13 := hout 13 (outB_spec (by kernel_rfl))
       have hord : ∀ x ∈ ([(19, 17), (17, 5), (5, 4), (4, 2), (17, 16), (16, 15), (15, 14), (14, 13), (13, 12), (12, 11), (11, 10), (10, 8), (20, 19)] : List (Nat × Nat)), x.1 = 6 → listed.getD x.2 false = true := (by intro x hx he; simp only [List.mem_cons, List.not_mem_nil, or_false] at hx; rcases hx with rfl | rfl | rfl | rfl | rfl | rfl | rfl | rfl | rfl | rfl | rfl | rfl | rfl; all_goals first | (exact absurd he (by decide)) | assumption)
       refine wp_mv _ rfl (hK _ _ ?_)
       rw [show a.eval (.tmp 13) = .int .i64 j from q13]
       exact hJ.plain (by rw [hls]; decide) hFst (by decide) (Ex.refl _) (by rw [hT]; rfl) hord
      ·rw [if_pos (by rfl)]
       intro K hK
       have q6 := hout 6 (outB_spec (by kernel_rfl))
       have hord : ∀ x ∈ ([(19, 17), (17, 5), (5, 4), (4, 2), (17, 16), (16, 15), (15, 14), (14, 13), (13, 12), (12, 11), (11, 10), (10, 8), (20, 19)] : List (Nat × Nat)), x.1 = 7 → listed.getD x.2 false = true := (by intro x hx he; simp only [List.mem_cons, List.not_mem_nil, or_false] at hx; rcases hx with rfl | rfl | rfl | rfl | rfl | rfl | rfl | rfl | rfl | rfl | rfl | rfl | rfl; all_goals first | (exact absurd he (by decide)) | assumption)
       rw [Array.getD_eq_getD_getElem?] at q6
       clear hsz hdep hout hlat
       go_simp
       exact hK _ _ (hJ.plain (by rw [hls]; decide) hFst (by decide) (Ex.refl _) (by rw [hT]; first | rfl | exact int_eq (by omega) | exact int_eq (by rw [IntKind.wrap_i64]; omega)) hord)
      ·rw [if_pos (by rfl)]
       intro K hK
       have dd141 := hdep ⟨7, .data⟩ (by simp) rfl
       have q141 := dd141.2 _ rfl _ rfl
       have h141 := hJ.vals 7 dd141.1 no_c
       rw [hT] at h141
       rw [show f 7 = .pointer (some ⟨g, 9, none⟩) from h141] at q141
       clear h141
       clear dd141
       have hord : ∀ x ∈ ([(19, 17), (17, 5), (5, 4), (4, 2), (17, 16), (16, 15), (15, 14), (14, 13), (13, 12), (12, 11), (11, 10), (10, 8), (20, 19)] : List (Nat × Nat)), x.1 = 8 → listed.getD x.2 false = true := (by intro x hx he; simp only [List.mem_cons, List.not_mem_nil, or_false] at hx; rcases hx with rfl | rfl | rfl | rfl | rfl | rfl | rfl | rfl | rfl | rfl | rfl | rfl | rfl; all_goals first | (exact absurd he (by decide)) | assumption)
       have hcut : listed.getD 19 false = false := by
        cases hc : listed.getD 19 false with
        | false => rfl
        | true =>
         have hc0 := hJ.ord (19, 17) (by simp) hc
         have hc1 := hJ.ord (17, 16) (by simp) hc0
         have hc2 := hJ.ord (16, 15) (by simp) hc1
         have hc3 := hJ.ord (15, 14) (by simp) hc2
         have hc4 := hJ.ord (14, 13) (by simp) hc3
         have hc5 := hJ.ord (13, 12) (by simp) hc4
         have hc6 := hJ.ord (12, 11) (by simp) hc5
         have hc7 := hJ.ord (11, 10) (by simp) hc6
         have hc8 := hJ.ord (10, 8) (by simp) hc7
         exact absurd hc8 (by rw [hun]; decide)
       have hpre := hJ.pre hcut
       have c1 := (Below.cell (p := ⟨g, 9, none⟩) hpre (show g < wr.heap.size from Nat.lt_of_lt_of_le GA.out.blk.lt BX.out.sz')).trans D9.out
       rw [Array.getD_eq_getD_getElem?] at q141
       clear hsz hdep hout hlat
       go_simp
       exact hK _ _ (hJ.plain (by rw [hls]; decide) hFst (by decide) (Ex.refl _) (by rw [hT]; rfl) hord)
      ·rw [if_pos (by rfl)]
       intro K hK
       have q13 := hout 13 (outB_spec (by kernel_rfl))
       have hord : ∀ x ∈ ([(19, 17), (17, 5), (5, 4), (4, 2), (17, 16), (16, 15), (15, 14), (14, 13), (13, 12), (12, 11), (11, 10), (10, 8), (20, 19)] : List (Nat × Nat)), x.1 = 9 → listed.getD x.2 false = true := (by intro x hx he; simp only [List.mem_cons, List.not_mem_nil, or_false] at hx; rcases hx with rfl | rfl | rfl | rfl | rfl | rfl | rfl | rfl | rfl | rfl | rfl | rfl | rfl; all_goals first | (exact absurd he (by decide)) | assumption)
       refine wp_mv _ rfl (hK _ _ ?_)
       rw [show a.eval (.tmp 13) = .int .i64 j from q13]
       exact hJ.plain (by rw [hls]; decide) hFst (by decide) (Ex.refl _) (by rw [hT]; rfl) hord
      ·rw [if_pos (by rfl)]
       intro K hK
       have dd142 := hdep ⟨8, .data⟩ (by simp) rfl
       have q142 := dd142.2 _ rfl _ rfl
       have h142 := hJ.vals 8 dd142.1 no_c
       rw [hT] at h142
       rw [show f 8 = .slice (some ⟨al, ol, none⟩) nl A.lc from h142] at q142
       clear h142
       clear dd142
       have dd143 := hdep ⟨9, .data⟩ (by simp) rfl
       have q143 := dd143.2 _ rfl _ rfl
       have h143 := hJ.vals 9 dd143.1 no_c
       rw [hT] at h143
       rw [show f 9 = .int .i64 j from h143] at q143
       clear h143
       clear dd143
       have hl8 := (hdep ⟨8, .data⟩ (by simp) rfl).1
       have hord : ∀ x ∈ ([(19, 17), (17, 5), (5, 4), (4, 2), (17, 16), (16, 15), (15, 14), (14, 13), (13, 12), (12, 11), (11, 10), (10, 8), (20, 19)] : List (Nat × Nat)), x.1 = 10 → listed.getD x.2 false = true := (by intro x hx he; simp only [List.mem_cons, List.not_mem_nil, or_false] at hx; rcases hx with rfl | rfl | rfl | rfl | rfl | rfl | rfl | rfl | rfl | rfl | rfl | rfl | rfl; all_goals first | (exact absurd he (by decide)) | assumption)
       rw [Array.getD_eq_getD_getElem?] at q142
       rw [Array.getD_eq_getD_getElem?] at q143
       clear hsz hdep hout hlat
       go_simp
       exact hK _ _ (hJ.plain (by rw [hls]; decide) hFst (by decide) (Ex.refl _) (by rw [hT]; first | rfl | exact int_eq (by omega) | exact int_eq (by rw [IntKind.wrap_i64]; omega)) hord)
      ·rw [if_pos (by rfl)]
       intro K hK
       have dd144 := hdep ⟨10, .data⟩ (by simp) rfl
       have q144 := dd144.2 _ rfl _ rfl
       have h144 := hJ.vals 10 dd144.1 no_c
       rw [hT] at h144
       rw [show f 10 = .pointer (some ⟨al, ol + j * 8, none⟩) from h144] at q144
       clear h144
       clear dd144
       have hl10 := (hdep ⟨10, .data⟩ (by simp) rfl).1
       have hord : ∀ x ∈ ([(19, 17), (17, 5), (5, 4), (4, 2), (17, 16), (16, 15), (15, 14), (14, 13), (13, 12), (12, 11), (11, 10), (10, 8), (20, 19)] : List (Nat × Nat)), x.1 = 11 → listed.getD x.2 false = true := (by intro x hx he; simp only [List.mem_cons, List.not_mem_nil, or_false] at hx; rcases hx with rfl | rfl | rfl | rfl | rfl | rfl | rfl | rfl | rfl | rfl | rfl | rfl | rfl; all_goals first | (exact absurd he (by decide)) | assumption)
       rw [Array.getD_eq_getD_getElem?] at q144
       clear hsz hdep hout hlat
       go_simp
       exact hK _ _ (hJ.plain (by rw [hls]; decide) hFst (by decide) (Ex.refl _) (by rw [hT]; first | rfl | exact int_eq (by omega) | exact int_eq (by rw [IntKind.wrap_i64]; omega)) hord)
      ·rw [if_pos (by rfl)]
       intro K hK
       have dd145 := hdep ⟨11, .data⟩ (by simp) rfl
       have q145 := dd145.2 _ rfl _ rfl
       have h145 := hJ.vals 11 dd145.1 no_c
       rw [hT] at h145
       rw [show f 11 = .pointer (some ⟨al, ol + j * 8, none⟩) from h145] at q145
       clear h145
       clear dd145
       have hl11 := (hdep ⟨11, .data⟩ (by simp) rfl).1
       have hord : ∀ x ∈ ([(19, 17), (17, 5), (5, 4), (4, 2), (17, 16), (16, 15), (15, 14), (14, 13), (13, 12), (12, 11), (11, 10), (10, 8), (20, 19)] : List (Nat × Nat)), x.1 = 12 → listed.getD x.2 false = true := (by intro x hx he; simp only [List.mem_cons, List.not_mem_nil, or_false] at hx; rcases hx with rfl | rfl | rfl | rfl | rfl | rfl | rfl | rfl | rfl | rfl | rfl | rfl | rfl; all_goals first | (exact absurd he (by decide)) | assumption)
       have hcut : listed.getD 19 false = false := by
        cases hc : listed.getD 19 false with
        | false => rfl
        | true =>
         have hc0 := hJ.ord (19, 17) (by simp) hc
         have hc1 := hJ.ord (17, 16) (by simp) hc0
         have hc2 := hJ.ord (16, 15) (by simp) hc1
         have hc3 := hJ.ord (15, 14) (by simp) hc2
         have hc4 := hJ.ord (14, 13) (by simp) hc3
         have hc5 := hJ.ord (13, 12) (by simp) hc4
         exact absurd hc5 (by rw [hun]; decide)
       have hpre := hJ.pre hcut
       have c1 : w3.cell? ⟨al, ol + j * 8, none⟩ = some (.int .i64 y.id) := range_ex YR.out hpre HAL.out 0 _ rfl
       rw [Array.getD_eq_getD_getElem?] at q145
       clear hsz hdep hout hlat
       go_simp
       exact hK _ _ (hJ.plain (by rw [hls]; decide) hFst (by decide) (Ex.refl _) (by rw [hT]; rfl) hord)
      ·rw [if_pos (by rfl)]
       intro K hK
       have dd146 := hdep ⟨12, .data⟩ (by simp) rfl
       have q146 := dd146.2 _ rfl _ rfl
       have h146 := hJ.vals 12 dd146.1 no_c
       rw [hT] at h146
       rw [show f 12 = .int .i64 y.id from h146] at q146
       clear h146
       clear dd146
       have hl12 := (hdep ⟨12, .data⟩ (by simp) rfl).1
       have hord : ∀ x ∈ ([(19, 17), (17, 5), (5, 4), (4, 2), (17, 16), (16, 15), (15, 14), (14, 13), (13, 12), (12, 11), (11, 10), (10, 8), (20, 19)] : List (Nat × Nat)), x.1 = 13 → listed.getD x.2 false = true := (by intro x hx he; simp only [List.mem_cons, List.not_mem_nil, or_false] at hx; rcases hx with rfl | rfl | rfl | rfl | rfl | rfl | rfl | rfl | rfl | rfl | rfl | rfl | rfl; all_goals first | (exact absurd he (by decide)) | assumption)
       have hand := HND.out
       rw [Array.getD_eq_getD_getElem?] at q146
       clear hsz hdep hout hlat
       go_simp
       exact hK _ _ (hJ.plain (by rw [hls]; decide) hFst (by decide) (Ex.refl _) (by rw [hT]; first | rfl | exact congrArg (Value.int .i64) hand) hord)
      ·rw [if_pos (by rfl)]
       intro K hK
       have dd140 := hdep ⟨6, .data⟩ (by simp) rfl
       have q140 := dd140.2 _ rfl _ rfl
       have h140 := hJ.vals 6 dd140.1 no_c
       rw [hT] at h140
       rw [show f 6 = .int .i64 j from h140] at q140
       clear h140
       clear dd140
       have dd147 := hdep ⟨13, .data⟩ (by simp) rfl
       have q147 := dd147.2 _ rfl _ rfl
       have h147 := hJ.vals 13 dd147.1 no_c
       rw [hT] at h147
       rw [show f 13 = .int .i64 ((c9 : Nat) : Int) from h147] at q147
       clear h147
       clear dd147
       have hl13 := (hdep ⟨13, .data⟩ (by simp) rfl).1
       have hord : ∀ x ∈ ([(19, 17), (17, 5), (5, 4), (4, 2), (17, 16), (16, 15), (15, 14), (14, 13), (13, 12), (12, 11), (11, 10), (10, 8), (20, 19)] : List (Nat × Nat)), x.1 = 14 → listed.getD x.2 false = true := (by intro x hx he; simp only [List.mem_cons, List.not_mem_nil, or_false] at hx; rcases hx with rfl | rfl | rfl | rfl | rfl | rfl | rfl | rfl | rfl | rfl | rfl | rfl | rfl; all_goals first | (exact absurd he (by decide)) | assumption)
       have hc : (c9 : Int) ≤ 1 := by omega
       have e1 : IntKind.i64.wrap ((j : Int) + (c9 : Int)) = (j : Int) + (c9 : Int) := by rw [IntKind.wrap_i64]; omega
       rw [Array.getD_eq_getD_getElem?] at q140
       rw [Array.getD_eq_getD_getElem?] at q147
       clear hsz hdep hout hlat
       go_simp
       exact hK _ _ (hJ.plain (by rw [hls]; decide) hFst (by decide) (Ex.refl _) (by rw [hT]; rfl) hord)
      ·rw [if_pos (by rfl)]
       intro K hK
       have dd148 := hdep ⟨14, .data⟩ (by simp) rfl
       have q148 := dd148.2 _ rfl _ rfl
       have h148 := hJ.vals 14 dd148.1 no_c
       rw [hT] at h148
       rw [show f 14 = .int .i64 ((j : Int) + (c9 : Int)) from h148] at q148
       clear h148
       clear dd148
       have hl14 := (hdep ⟨14, .data⟩ (by simp) rfl).1
       have hord : ∀ x ∈ ([(19, 17), (17, 5), (5, 4), (4, 2), (17, 16), (16, 15), (15, 14), (14, 13), (13, 12), (12, 11), (11, 10), (10, 8), (20, 19)] : List (Nat × Nat)), x.1 = 15 → listed.getD x.2 false = true := (by intro x hx he; simp only [List.mem_cons, List.not_mem_nil, or_false] at hx; rcases hx with rfl | rfl | rfl | rfl | rfl | rfl | rfl | rfl | rfl | rfl | rfl | rfl | rfl; all_goals first | (exact absurd he (by decide)) | assumption)
       have hu := HU.out
       have e1 : IntKind.u8.wrap ((j : Int) + (c9 : Int)) = ((u.toNat : Nat) : Int) := by
        rw [hu]; rcases (show j = 0 ∨ j = 1 ∨ j = 2 ∨ j = 3 ∨ j = 4 ∨ j = 5 by omega) with rfl | rfl | rfl | rfl | rfl | rfl <;> rcases (show c9 = 0 ∨ c9 = 1 by omega) with rfl | rfl <;> rfl
       have E1 := Lib.hid e1
       clear e1 hu
       rw [Array.getD_eq_getD_getElem?] at q148
       clear hsz hdep hout hlat
       have e1 := E1.out
       go_simp
       exact hK _ _ (hJ.plain (by rw [hls]; decide) hFst (by decide) (Ex.refl _) (by rw [hT]; first | rfl | exact congrArg (Value.int .u8) E1.out | (show Value.int .u8 _ = _; congr 1; have := HU.out; omega)) hord)
      ·rw [if_pos (by rfl)]
       intro K hK
       have dd149 := hdep ⟨15, .data⟩ (by simp) rfl
       have q149 := dd149.2 _ rfl _ rfl
       have h149 := hJ.vals 15 dd149.1 no_c
       rw [hT] at h149
       rw [show f 15 = .int .u8 ((u.toNat : Nat) : Int) from h149] at q149
       clear h149
       clear dd149
       have hl15 := (hdep ⟨15, .data⟩ (by simp) rfl).1
       have hord : ∀ x ∈ ([(19, 17), (17, 5), (5, 4), (4, 2), (17, 16), (16, 15), (15, 14), (14, 13), (13, 12), (12, 11), (11, 10), (10, 8), (20, 19)] : List (Nat × Nat)), x.1 = 16 → listed.getD x.2 false = true := (by intro x hx he; simp only [List.mem_cons, List.not_mem_nil, or_false] at hx; rcases hx with rfl | rfl | rfl | rfl | rfl | rfl | rfl | rfl | rfl | rfl | rfl | rfl | rfl; all_goals first | (exact absurd he (by decide)) | assumption)
       rw [Array.getD_eq_getD_getElem?] at q149
       clear hsz hdep hout hlat
       go_simp
       exact hK _ _ (hJ.plain (by rw [hls]; decide) hFst (by decide) (Ex.refl _) (by rw [hT]; first | rfl | exact int_eq (by omega) | exact int_eq (by rw [IntKind.wrap_i64]; omega)) hord)
      ·rw [if_pos (by rfl)]
       intro K hK
       have dd139 := hdep ⟨5, .data⟩ (by simp) rfl
       have q139 := dd139.2 _ rfl _ rfl
       have h139 := hJ.vals 5 dd139.1 no_c
       rw [hT] at h139
       rw [show f 5 = y.V from h139] at q139
       clear h139
       clear dd139
       have dd150 := hdep ⟨16, .data⟩ (by simp) rfl
       have q150 := dd150.2 _ rfl _ rfl
       have h150 := hJ.vals 16 dd150.1 no_c
       rw [hT] at h150
       rw [show f 16 = digV [u, 0, 0, 0] from h150] at q150
       clear h150
       clear dd150
       have hl5 := (hdep ⟨5, .data⟩ (by simp) rfl).1
       have hl16 := (hdep ⟨16, .data⟩ (by simp) rfl).1
       have hord : ∀ x ∈ ([(19, 17), (17, 5), (5, 4), (4, 2), (17, 16), (16, 15), (15, 14), (14, 13), (13, 12), (12, 11), (11, 10), (10, 8), (20, 19)] : List (Nat × Nat)), x.1 = 17 → listed.getD x.2 false = true := (by intro x hx he; simp only [List.mem_cons, List.not_mem_nil, or_false] at hx; rcases hx with rfl | rfl | rfl | rfl | rfl | rfl | rfl | rfl | rfl | rfl | rfl | rfl | rfl; all_goals first | (exact absurd he (by decide)) | assumption)
       have hcut : listed.getD 19 false = false := by
        cases hc : listed.getD 19 false with
        | false => rfl
        | true =>
         have hc0 := hJ.ord (19, 17) (by simp) hc
         exact absurd hc0 (by rw [hun]; decide)
       have hpre := hJ.pre hcut
       rw [Array.getD_eq_getD_getElem?] at q139
       rw [Array.getD_eq_getD_getElem?] at q150
       clear hsz hdep hout hlat
       go_simp
       refine (kv_any y [u, 0, 0, 0] rfl w3 (YI.out.ext hpre)).mono ?_
       rintro e w4 ⟨z, rfl, hzn, -, -, x3⟩
       exact hK _ _ (hJ.plain (by rw [hls]; decide) hFst (by decide) x3 (by rw [hT]; exact ⟨z, rfl, hzn⟩) hord)
      ·rw [if_pos (by rfl)]
       intro K hK
       have dd151 := hdep ⟨17, .data⟩ (by simp) rfl
       have q151 := dd151.2 _ rfl _ rfl
       have h151 := hJ.vals 17 dd151.1 (fun c hc => by have hc : some 18 = some c := hc; cases hc; exact hun)
       rw [hT] at h151
       have h151 : (fun v w9 => ∃ z : Vt, v = z.V ∧ TVN w9 z) (f 17) w3 := h151
       obtain ⟨z151, e151, n151⟩ := h151
       rw [e151] at q151
       clear dd151
       have hord : ∀ x ∈ ([(19, 17), (17, 5), (5, 4), (4, 2), (17, 16), (16, 15), (15, 14), (14, 13), (13, 12), (12, 11), (11, 10), (10, 8), (20, 19)] : List (Nat × Nat)), x.1 = 18 → listed.getD x.2 false = true := (by intro x hx he; simp only [List.mem_cons, List.not_mem_nil, or_false] at hx; rcases hx with rfl | rfl | rfl | rfl | rfl | rfl | rfl | rfl | rfl | rfl | rfl | rfl | rfl; all_goals first | (exact absurd he (by decide)) | assumption)
       clear hsz hdep hout hlat
       refine wp_bsv (.tmp 151) z151 n151.ok rfl q151 (hK _ _ (hJ.plain (by rw [hls]; decide) hFst (by decide) (Ex.alloc _ _) (by rw [hT]; exact ⟨z151, _, rfl, Bk.new rfl _ _, n151.ext (Ex.alloc _ _)⟩) hord))
      ·rw [if_pos (by rfl)]
       intro K hK
       have dd134 := hdep ⟨0, .data⟩ (by simp) rfl
       have q134 := dd134.2 _ rfl _ rfl
       have h134 := hJ.vals 0 dd134.1 no_c
       rw [hT] at h134
       rw [show f 0 = fv from h134] at q134
       clear h134
       clear dd134
       have dd152 := hdep ⟨18, .data⟩ (by simp) rfl
       have q152 := dd152.2 _ rfl _ rfl
       have h152 := hJ.vals 18 dd152.1 (fun c hc => by have hc : some 19 = some c := hc; cases hc; exact hun)
       rw [hT] at h152
       have h152 : (fun v w9 => ∃ (z : Vt) (b : Nat), v = .slice (some ⟨b, 0, none⟩) 1 1 ∧ Bk w9 b 30 z.C.toArray ∧ TVN w9 z) (f 18) w3 := h152
       obtain ⟨z152, g152, e152, b152, n152⟩ := h152
       rw [e152] at q152
       clear dd152
       have hl17 := (hdep ⟨17, .chain⟩ (by simp) rfl).1
       have hord : ∀ x ∈ ([(19, 17), (17, 5), (5, 4), (4, 2), (17, 16), (16, 15), (15, 14), (14, 13), (13, 12), (12, 11), (11, 10), (10, 8), (20, 19)] : List (Nat × Nat)), x.1 = 19 → listed.getD x.2 false = true := (by intro x hx he; simp only [List.mem_cons, List.not_mem_nil, or_false] at hx; rcases hx with rfl | rfl | rfl | rfl | rfl | rfl | rfl | rfl | rfl | rfl | rfl | rfl | rfl; all_goals first | (exact absurd he (by decide)) | assumption)
       have hcut := hun
       have hpre := hJ.pre hcut
       have hc1 : ∀ j, j ≠ 19 → ([true, true, true, true, true, true, true, true, true, true, true, true, true, true, true, true, true, false, false, false, false] : List Bool).getD j true = false → listed.getD j false = true → ∃ c, (([none, none, none, none, none, none, none, none, none, none, none, none, none, none, none, none, none, some 18, some 19, none, none] : List (Option Nat))).getD j none = some c ∧ (c = 19 ∨ listed.getD c false = true) := by
        intro j hj hfj hl
        have hm : j = 17 ∨ j = 18 ∨ j = 20 ∨ j = 19 := by
         rcases Nat.lt_or_ge j 21 with h | h
         ·have hk : j = 0 ∨ j = 1 ∨ j = 2 ∨ j = 3 ∨ j = 4 ∨ j = 5 ∨ j = 6 ∨ j = 7 ∨ j = 8 ∨ j = 9 ∨ j = 10 ∨ j = 11 ∨ j = 12 ∨ j = 13 ∨ j = 14 ∨ j = 15 ∨ j = 16 ∨ j = 17 ∨ j = 18 ∨ j = 19 ∨ j = 20 := by omega
          rcases hk with rfl | rfl | rfl | rfl | rfl | rfl | rfl | rfl | rfl | rfl | rfl | rfl | rfl | rfl | rfl | rfl | rfl | rfl | rfl | rfl | rfl <;> first | (exact absurd hfj (by decide)) | simp
         ·rw [List.getD_eq_getElem?_getD, List.getElem?_eq_none (by simpa using h)] at hfj; cases hfj
        rcases hm with rfl | rfl | rfl | rfl
        ·exact ⟨18, rfl, Or.inr (hdep ⟨18, .data⟩ (by simp) rfl).1⟩
        ·exact ⟨19, rfl, Or.inl rfl⟩
        ·exact absurd (hJ.ord (20, 19) (by simp) hl) (by rw [hun]; decide)
        ·exact absurd rfl hj
       obtain ⟨zz, hzz⟩ : ∃ z, z = z152 := ⟨_, rfl⟩
       rw [← hzz] at b152 n152
       have nz := n152
       have VR9 := VR.out.1.ext hpre
       have mr : Many w3 30 1 zz.C (.slice (some ⟨g152, 0, none⟩) 1 1) := ⟨g152, rfl, b152⟩
       obtain ⟨adx, ex, nx, rx⟩ := mr.rd (sz := 42) (Vt.len nz.ok)
       cases ex
       have hfl := VR.out.2
       refine wp_rd _ _ 59 30 zeroVt.V 42 96 rfl Try.underlying59 Try.infoVt rfl (by decide) wb.heap.size fs.length fv _ q134 VR9.row (Ex.trans BX.out hpre).sz' _ 1 1 _ q152 rx (Nat.le_refl _) (fun h => by cases h) (Vt.C_one zz) (by omega) (by omega) (fun v5 w5 r1 r2 => ?_)
       exact hK _ _ (hJ.mod (by rw [hls]; decide) HFX (by rw [hT]; exact ⟨zz, VR9.app r2 r1 nz, Below.trans (show Below wb.heap.size wb _ from Ex.trans BX.out hpre) r2.below⟩) hc1 (Or.inl rfl) (fun _ => trivial) hord)
      ·rw [if_pos (by rfl)]
       intro K hK
       have dd153 := hdep ⟨19, .data⟩ (by simp) rfl
       have q153 := dd153.2 _ rfl _ rfl
       have h153 := hJ.vals 19 dd153.1 no_c
       rw [hT] at h153
       have h153 : (fun v w9 => ∃ z : Vt, VRow w9 wb.heap.size v (fs ++ [z]) ∧ Ex wb w9) (f 19) w3 := h153
       obtain ⟨v153, ev153⟩ : ∃ v, v = f 19 := ⟨_, rfl⟩
       rw [← ev153] at h153 q153
       clear ev153
       clear dd153
       have hl19 := (hdep ⟨19, .data⟩ (by simp) rfl).1
       have hord : ∀ x ∈ ([(19, 17), (17, 5), (5, 4), (4, 2), (17, 16), (16, 15), (15, 14), (14, 13), (13, 12), (12, 11), (11, 10), (10, 8), (20, 19)] : List (Nat × Nat)), x.1 = 20 → listed.getD x.2 false = true := (by intro x hx he; simp only [List.mem_cons, List.not_mem_nil, or_false] at hx; rcases hx with rfl | rfl | rfl | rfl | rfl | rfl | rfl | rfl | rfl | rfl | rfl | rfl | rfl; all_goals first | (exact absurd he (by decide)) | assumption)
       rw [Array.getD_eq_getD_getElem?] at q153
       clear hsz hdep hout hlat
       go_simp
       exact hK _ _ (hJ.plain (by rw [hls]; decide) hFst (by decide) (Ex.refl _) (by rw [hT]; exact h153) hord)
     ·intro listed f w3 hall hJ
      have o20 := hJ.vals 20 (hall 20 (by simp)) no_c
      rw [hT] at o20
      have o20 : (fun v w9 => ∃ z : Vt, VRow w9 wb.heap.size v (fs ++ [z]) ∧ Ex wb w9) (f 20) w3 := o20
      have xf : (fun _ => True) w3 := hJ.fin (hall 19 (by simp))
      simp only [putAll, Act.put, List.setIfInBounds_toArray, List.set_cons_zero, List.set_cons_succ, Nat.zero_add, Nat.reduceAdd]
      generalize f 20 = nf at o20 ⊢
      clear hJ hall hT HFX hFst
      generalize f 0 = y0
      generalize f 1 = y1
      generalize f 2 = y2
      generalize f 3 = y3
      generalize f 4 = y4
      generalize f 5 = y5
      generalize f 6 = y6
      generalize f 7 = y7
      generalize f 8 = y8
      generalize f 9 = y9
      generalize f 10 = y10
      generalize f 11 = y11
      generalize f 12 = y12
      generalize f 13 = y13
      generalize f 14 = y14
      generalize f 15 = y15
      generalize f 16 = y16
      generalize f 17 = y17
      generalize f 18 = y18
      generalize f 19 = y19
      obtain ⟨z, hz1, hz2⟩ := o20
      have VR2 : Hid (VRow w3 wb.heap.size nf (fs ++ [z]) ∧ (fs ++ [z]).length = j + 1) := Lib.hid ⟨hz1, by rw [List.length_append, VR.out.2]; rfl⟩
      have BX2 := Lib.hid hz2
      clear VR BX hz1 hz2 xf D9 d9r
      go_wp2_with (first | (with_reducible refine stop_load (t := 30) ?_) | (with_reducible refine stop_store (t := 30) ?_) | (with_reducible refine stop_load (t := 24) ?_) | (with_reducible refine stop_store (t := 24) ?_) | (with_reducible refine stop_load (t := 48) ?_) | (with_reducible refine stop_store (t := 48) ?_) | (with_reducible refine stop_load (t := 51) ?_) | (with_reducible refine stop_store (t := 51) ?_) | (with_reducible refine stop_build (t := 30) ?_) | (with_reducible refine stop_bs (t := 59) ?_) | (with_reducible refine stop_app ?_))
      (first | (refine ⟨?_, ?measure⟩; (repeat apply Exists.intro); refine ⟨?rel, rfl⟩) | refine ⟨?rel, ?measure⟩)
      case rel => exact ⟨j + 1, fs ++ [z], by omega, by omega, by go_num, VR2, BX2⟩
      case measure => simp [intOf]; omega
    ·have r1 : ¬ (j : Int) < (nl : Int) := by omega
     replace P := Lib.hid (P.out.ext BX.out)
     skip
     go_wp2_with (first | (with_reducible refine stop_load (t := 30) ?_) | (with_reducible refine stop_store (t := 30) ?_) | (with_reducible refine stop_load (t := 24) ?_) | (with_reducible refine stop_store (t := 24) ?_) | (with_reducible refine stop_load (t := 48) ?_) | (with_reducible refine stop_store (t := 48) ?_) | (with_reducible refine stop_load (t := 51) ?_) | (with_reducible refine stop_store (t := 51) ?_) | (with_reducible refine stop_build (t := 30) ?_) | (with_reducible refine stop_bs (t := 59) ?_) | (with_reducible refine stop_app ?_))
     generalize u12 = fv at *
     have FR : Hid (VRow wr w.heap.size fv fs) := Lib.hid (VR.out.1.less HWB.out)
     clear VR BX d9r d9 d0 GA
     obtain ⟨adf, capf, rfl, hif, hcf⟩ := FR.out.inn2
     have HCF := Lib.hid hcf
     clear hif hcf
     go_wp2_with (first | (with_reducible refine stop_load (t := 30) ?_) | (with_reducible refine stop_store (t := 30) ?_) | (with_reducible refine stop_load (t := 24) ?_) | (with_reducible refine stop_store (t := 24) ?_) | (with_reducible refine stop_load (t := 48) ?_) | (with_reducible refine stop_store (t := 48) ?_) | (with_reducible refine stop_load (t := 51) ?_) | (with_reducible refine stop_store (t := 51) ?_) | (with_reducible refine stop_build (t := 30) ?_) | (with_reducible refine stop_bs (t := 59) ?_) | (with_reducible refine stop_app ?_))
     refine (rising_any adf capf fs HCF.out wr FR.out.rd.1 FR.out.vis).mono ?_
     rintro e wi ⟨q, rfl, hq, x3⟩
     have HQ := Lib.hid hq
     replace FR := Lib.hid (FR.out.ext x3)
     replace P := Lib.hid (P.out.ext x3)
     clear hq x3
     cases q
     ·have HNR : Hid (¬ Rising fs) := Lib.hid (fun h => by have := HQ.out.2 h; cases this)
      go_wp2_with (first | (with_reducible refine stop_load (t := 30) ?_) | (with_reducible refine stop_store (t := 30) ?_) | (with_reducible refine stop_load (t := 24) ?_) | (with_reducible refine stop_store (t := 24) ?_) | (with_reducible refine stop_load (t := 48) ?_) | (with_reducible refine stop_store (t := 48) ?_) | (with_reducible refine stop_load (t := 51) ?_) | (with_reducible refine stop_store (t := 51) ?_) | (with_reducible refine stop_build (t := 30) ?_) | (with_reducible refine stop_bs (t := 59) ?_) | (with_reducible refine stop_app ?_))
      refine (tfill_any D rv vs adf capf fs HCF.out wi P.out.tb FR.out.rd.1 FR.out.vis).mono ?_
      rintro e wp hfp
      obtain ⟨rfl, x4⟩ := hfp.no HNR.out
      replace P := Lib.hid (P.out.ext x4)
      clear hfp x4
      go_wp2_with (first | (with_reducible refine stop_load (t := 30) ?_) | (with_reducible refine stop_store (t := 30) ?_) | (with_reducible refine stop_load (t := 24) ?_) | (with_reducible refine stop_store (t := 24) ?_) | (with_reducible refine stop_load (t := 48) ?_) | (with_reducible refine stop_store (t := 48) ?_) | (with_reducible refine stop_load (t := 51) ?_) | (with_reducible refine stop_store (t := 51) ?_) | (with_reducible refine stop_build (t := 30) ?_) | (with_reducible refine stop_bs (t := 59) ?_) | (with_reducible refine stop_app ?_))
      have CL := tlen_any D rv vs wp P.out.tb
      rw [P.out.len] at CL
      rw [← HN.out] at CL
      refine CL.mono ?_
      rintro e wl ⟨rfl, hwl⟩
      subst hwl
      clear CL
      go_wp2_with (first | (with_reducible refine stop_load (t := 30) ?_) | (with_reducible refine stop_store (t := 30) ?_) | (with_reducible refine stop_load (t := 24) ?_) | (with_reducible refine stop_store (t := 24) ?_) | (with_reducible refine stop_load (t := 48) ?_) | (with_reducible refine stop_store (t := 48) ?_) | (with_reducible refine stop_load (t := 51) ?_) | (with_reducible refine stop_store (t := 51) ?_) | (with_reducible refine stop_build (t := 30) ?_) | (with_reducible refine stop_bs (t := 59) ?_) | (with_reducible refine stop_app ?_))
      refine (tall_any D rv vs wp P.out.tb).mono ?_
      rintro e wt ⟨vt, ts, rfl, hvr, hc2, x5⟩
      obtain ⟨adt, capt, rfl, hit, hct9⟩ := hvr.inn2
      replace P := Lib.hid (P.out.ext x5)
      have HTS := Lib.hid hvr
      have HC2 := Lib.hid hc2
      have HCT9 := Lib.hid hct9
      clear hvr hc2 x5 hit hct9
      go_wp2_with (first | (with_reducible refine stop_load (t := 30) ?_) | (with_reducible refine stop_store (t := 30) ?_) | (with_reducible refine stop_load (t := 24) ?_) | (with_reducible refine stop_store (t := 24) ?_) | (with_reducible refine stop_load (t := 48) ?_) | (with_reducible refine stop_store (t := 48) ?_) | (with_reducible refine stop_load (t := 51) ?_) | (with_reducible refine stop_store (t := 51) ?_) | (with_reducible refine stop_build (t := 30) ?_) | (with_reducible refine stop_bs (t := 59) ?_) | (with_reducible refine stop_app ?_))
      obtain ⟨ad8, cap8, e8, hin8, hc8⟩ := P.out.inn
      rw [← HN.out] at e8
      cases e8
      have CV := rvs_any adt _ capt _ ts ms HCT9.out hc8 wt HTS.out.rd.1 hin8 HTS.out.vis P.out.vis
      rw [← HN.out] at CV
      rw [decide_eq_true (HC2.out.trans P.out.ct)] at CV
      refine CV.mono ?_
      rintro e wu ⟨rfl, x9⟩
      replace P := Lib.hid (P.out.ext x9)
      clear CV x9 HTS HC2 HCT9 hin8 hc8
      go_wp2_with (first | (with_reducible refine stop_load (t := 30) ?_) | (with_reducible refine stop_store (t := 30) ?_) | (with_reducible refine stop_load (t := 24) ?_) | (with_reducible refine stop_store (t := 24) ?_) | (with_reducible refine stop_load (t := 48) ?_) | (with_reducible refine stop_store (t := 48) ?_) | (with_reducible refine stop_load (t := 51) ?_) | (with_reducible refine stop_store (t := 51) ?_) | (with_reducible refine stop_build (t := 30) ?_) | (with_reducible refine stop_bs (t := 59) ?_) | (with_reducible refine stop_app ?_))
      refine ⟨⟨_, rv, k + 1, vs, ms, ⟨by omega, P⟩, rfl, rfl, rfl, rfl, rfl, rfl, rfl⟩, by simp [p12M, intOf]; omega⟩
     ·skip
      go_wp2_with (first | (with_reducible refine stop_load (t := 30) ?_) | (with_reducible refine stop_store (t := 30) ?_) | (with_reducible refine stop_load (t := 24) ?_) | (with_reducible refine stop_store (t := 24) ?_) | (with_reducible refine stop_load (t := 48) ?_) | (with_reducible refine stop_store (t := 48) ?_) | (with_reducible refine stop_load (t := 51) ?_) | (with_reducible refine stop_store (t := 51) ?_) | (with_reducible refine stop_build (t := 30) ?_) | (with_reducible refine stop_bs (t := 59) ?_) | (with_reducible refine stop_app ?_))
      refine (tfill_any D rv vs adf capf fs HCF.out wi P.out.tb FR.out.rd.1 FR.out.vis).mono ?_
      rintro e wp hfp
      obtain ⟨rfl, rv2, zs, ht, hct, hlt9, hk9⟩ := hfp.yes (HQ.out.1 (by simp))
      have P2 := Lib.hid (P.out.fill ht hct hlt9 hk9 FR.out)
      clear P hfp ht hct hlt9 hk9 FR HQ
      have P := P2
      clear P2
      go_wp2_with (first | (with_reducible refine stop_load (t := 30) ?_) | (with_reducible refine stop_store (t := 30) ?_) | (with_reducible refine stop_load (t := 24) ?_) | (with_reducible refine stop_store (t := 24) ?_) | (with_reducible refine stop_load (t := 48) ?_) | (with_reducible refine stop_store (t := 48) ?_) | (with_reducible refine stop_load (t := 51) ?_) | (with_reducible refine stop_store (t := 51) ?_) | (with_reducible refine stop_build (t := 30) ?_) | (with_reducible refine stop_bs (t := 59) ?_) | (with_reducible refine stop_app ?_))
      have CL := tlen_any D rv2 zs wp P.out.tb
      rw [P.out.len] at CL
      refine CL.mono ?_
      rintro e wl ⟨rfl, hwl⟩
      subst hwl
      clear CL
      go_wp2_with (first | (with_reducible refine stop_load (t := 30) ?_) | (with_reducible refine stop_store (t := 30) ?_) | (with_reducible refine stop_load (t := 24) ?_) | (with_reducible refine stop_store (t := 24) ?_) | (with_reducible refine stop_load (t := 48) ?_) | (with_reducible refine stop_store (t := 48) ?_) | (with_reducible refine stop_load (t := 51) ?_) | (with_reducible refine stop_store (t := 51) ?_) | (with_reducible refine stop_build (t := 30) ?_) | (with_reducible refine stop_bs (t := 59) ?_) | (with_reducible refine stop_app ?_))
      refine (tall_any D rv2 zs wp P.out.tb).mono ?_
      rintro e wt ⟨vt, ts, rfl, hvr, hc2, x5⟩
      obtain ⟨adt, capt, rfl, hit, hct9⟩ := hvr.inn2
      replace P := Lib.hid (P.out.ext x5)
      have HTS := Lib.hid hvr
      have HC2 := Lib.hid hc2
      have HCT9 := Lib.hid hct9
      clear hvr hc2 x5 hit hct9
      go_wp2_with (first | (with_reducible refine stop_load (t := 30) ?_) | (with_reducible refine stop_store (t := 30) ?_) | (with_reducible refine stop_load (t := 24) ?_) | (with_reducible refine stop_store (t := 24) ?_) | (with_reducible refine stop_load (t := 48) ?_) | (with_reducible refine stop_store (t := 48) ?_) | (with_reducible refine stop_load (t := 51) ?_) | (with_reducible refine stop_store (t := 51) ?_) | (with_reducible refine stop_build (t := 30) ?_) | (with_reducible refine stop_bs (t := 59) ?_) | (with_reducible refine stop_app ?_))
      obtain ⟨ad8, cap8, e8, hin8, hc8⟩ := P.out.inn
      cases e8
      have CV := rvs_any adt _ capt _ ts fs HCT9.out hc8 wt HTS.out.rd.1 hin8 HTS.out.vis P.out.vis
      rw [decide_eq_true (HC2.out.trans P.out.ct)] at CV
      refine CV.mono ?_
      rintro e wu ⟨rfl, x9⟩
      replace P := Lib.hid (P.out.ext x9)
      clear CV x9 HTS HC2 HCT9 hin8 hc8
      go_wp2_with (first | (with_reducible refine stop_load (t := 30) ?_) | (with_reducible refine stop_store (t := 30) ?_) | (with_reducible refine stop_load (t := 24) ?_) | (with_reducible refine stop_store (t := 24) ?_) | (with_reducible refine stop_load (t := 48) ?_) | (with_reducible refine stop_store (t := 48) ?_) | (with_reducible refine stop_load (t := 51) ?_) | (with_reducible refine stop_store (t := 51) ?_) | (with_reducible refine stop_build (t := 30) ?_) | (with_reducible refine stop_bs (t := 59) ?_) | (with_reducible refine stop_app ?_))
      refine ⟨⟨_, rv2, k + 1, zs, fs, ⟨by omega, P⟩, rfl, rfl, rfl, rfl, rfl, rfl, rfl⟩, by simp [p12M, intOf]; omega⟩
end Go.Proofs.Ytedljddjmojeeaa
