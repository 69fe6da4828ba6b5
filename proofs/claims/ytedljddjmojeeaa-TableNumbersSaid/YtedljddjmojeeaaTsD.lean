/- play of chapter 12 walked -/
import Derived.Test.YtedljddjmojeeaaTs
namespace Go.Proofs.Ytedljddjmojeeaa
open Go.RowKit
set_option maxHeartbeats 4000000 in
set_option maxRecDepth 100000 in
theorem p12_D (w : World) (ad : Option Addr) (cap n : Nat) (l : List At) (D : Nat) (mv : Value) (rv : Value) (k : Nat) (vs : List Vt) (ms : List Vt) (y : Nat → Value) (wr : World) (hk : k ≤ n) (P : Hid (PS w wr D rv vs mv ms)) (hL : n ≤ 9223372036854775807) (hin : Atp.In ad cap l w) (hnl : n = l.length) (hk50 : k < 50) (A : At) (hA : l[k]? = some A) (hlt : k < n) (hkind : A.kind ≠ 4 ∧ A.kind ≠ 5) (h6 : A.v.id.tmod 7 = 6)  (Q0 : Exit → Act → World → Prop) (hexit : ∀ a' w'', p12I w ad cap n l D a' w'' → Q0 (.exit 0) a' w'') :
  Code.wp Try.prog p12Body (Exit.then (fun a' w'' => p12I w ad cap n l D a' w'' ∧ p12M n a' w'' < p12M n ⟨#[.slice ad n cap, y 1, .bool false, .pointer (some ⟨D, 0, none⟩), mv, .int .i64 k, y 6, y 7, y 8, y 9, y 10, y 11, y 12, y 13, y 14, y 15, y 16, y 17, y 18, y 19, y 20, y 21, y 22, y 23, y 24, y 25, y 26, y 27, y 28, y 29, y 30, y 31, y 32, y 33, y 34, y 35, y 36, y 37, y 38, y 39, y 40, y 41, y 42, y 43, y 44, y 45, y 46, y 47, y 48, y 49, y 50, y 51, y 52, y 53, y 54, y 55, y 56, y 57, y 58, y 59, y 60, y 61, y 62, y 63, y 64, y 65, y 66, y 67, y 68, y 69, y 70, y 71, y 72, y 73, y 74, y 75, y 76, y 77, y 78, y 79, y 80, y 81, y 82, y 83, y 84, y 85, y 86, y 87, y 88, y 89, y 90, y 91, y 92, y 93, y 94, y 95, y 96, y 97, y 98, y 99, y 100, y 101, y 102, y 103, y 104, y 105, y 106, y 107, y 108, y 109, y 110, y 111, y 112, y 113, y 114, y 115, y 116, y 117, y 118, y 119, y 120, y 121, y 122, y 123, y 124, y 125, y 126, y 127, y 128, y 129, y 130, y 131, y 132, y 133, y 134, y 135, y 136, y 137, y 138, y 139, y 140, y 141, y 142, y 143, y 144, y 145, y 146, y 147, y 148, y 149, y 150, y 151, y 152, y 153, y 154, y 155, y 156, y 157, y 158, y 159, y 160, y 161, y 162, y 163, y 164, y 165, y 166, y 167, y 168, y 169, y 170, y 171, y 172, y 173, y 174, y 175, y 176, y 177, y 178], []⟩ wr) Q0) ⟨#[.slice ad n cap, y 1, .bool false, .pointer (some ⟨D, 0, none⟩), mv, .int .i64 k, y 6, y 7, y 8, y 9, y 10, y 11, y 12, y 13, y 14, y 15, y 16, y 17, y 18, y 19, y 20, y 21, y 22, y 23, y 24, y 25, y 26, y 27, y 28, y 29, y 30, y 31, y 32, y 33, y 34, y 35, y 36, y 37, y 38, y 39, y 40, y 41, y 42, y 43, y 44, y 45, y 46, y 47, y 48, y 49, y 50, y 51, y 52, y 53, y 54, y 55, y 56, y 57, y 58, y 59, y 60, y 61, y 62, y 63, y 64, y 65, y 66, y 67, y 68, y 69, y 70, y 71, y 72, y 73, y 74, y 75, y 76, y 77, y 78, y 79, y 80, y 81, y 82, y 83, y 84, y 85, y 86, y 87, y 88, y 89, y 90, y 91, y 92, y 93, y 94, y 95, y 96, y 97, y 98, y 99, y 100, y 101, y 102, y 103, y 104, y 105, y 106, y 107, y 108, y 109, y 110, y 111, y 112, y 113, y 114, y 115, y 116, y 117, y 118, y 119, y 120, y 121, y 122, y 123, y 124, y 125, y 126, y 127, y 128, y 129, y 130, y 131, y 132, y 133, y 134, y 135, y 136, y 137, y 138, y 139, y 140, y 141, y 142, y 143, y 144, y 145, y 146, y 147, y 148, y 149, y 150, y 151, y 152, y 153, y 154, y 155, y 156, y 157, y 158, y 159, y 160, y 161, y 162, y 163, y 164, y 165, y 166, y 167, y 168, y 169, y 170, y 171, y 172, y 173, y 174, y 175, y 176, y 177, y 178], []⟩ wr := by
 conv => arg 2; whnf
 have HIN := Lib.hid hin
 have HNL := Lib.hid hnl
 clear hin hnl
 obtain ⟨aa, oa, rfl, haa, hra⟩ := HIN.out.read (by rw [← HNL.out]; omega)
 have HAR := Lib.hid (hra k A hA)
 have HAI := Lib.hid (HIN.out.ins k A hA)
 have HAA := Lib.hid haa
 clear hra haa hA
 obtain ⟨adm, capm, rfl, hmi, hmc⟩ := P.out.inn
 have HMC := Lib.hid hmc
 clear hmi hmc
 obtain ⟨N, hN⟩ : ∃ N, N = ms.length := ⟨_, rfl⟩
 have hN4 : N ≤ 4 := by rw [hN, ← P.out.len]; exact P.out.tb.len
 rw [← hN] at P ⊢
 have HN := Lib.hid hN
 clear hN
 have q0 : (0 : Int) ≤ (k : Int) := by omega
 have q1 : (k : Int) < (n : Int) := by omega
 have q2 : (k : Int) < 50 := by omega
 go_wp2_with (first | (with_reducible refine stop_load (t := 30) ?_) | (with_reducible refine stop_store (t := 30) ?_) | (with_reducible refine stop_load (t := 24) ?_) | (with_reducible refine stop_store (t := 24) ?_) | (with_reducible refine stop_load (t := 48) ?_) | (with_reducible refine stop_store (t := 48) ?_) | (with_reducible refine stop_load (t := 51) ?_) | (with_reducible refine stop_store (t := 51) ?_) | (with_reducible refine stop_build (t := 30) ?_) | (with_reducible refine stop_bs (t := 59) ?_) | (with_reducible refine stop_app ?_))
 (with_reducible refine ⟨?_⟩); (with_reducible refine at_any ?_ ?_); (focus go_simp); refine fun K0 hK => ld_at _ aa (oa + k * 52) A HAI.out.raw.ok rfl rfl (fun j u hu => (Below.cell (p := ⟨aa, oa + k * 52 + j, none⟩) P.out.ex HAA.out).trans (HAR.out j u hu)) (hK _ _ ?_)
 clear hK
 go_wp2_with (first | (with_reducible refine stop_load (t := 30) ?_) | (with_reducible refine stop_store (t := 30) ?_) | (with_reducible refine stop_load (t := 24) ?_) | (with_reducible refine stop_store (t := 24) ?_) | (with_reducible refine stop_load (t := 48) ?_) | (with_reducible refine stop_store (t := 48) ?_) | (with_reducible refine stop_load (t := 51) ?_) | (with_reducible refine stop_store (t := 51) ?_) | (with_reducible refine stop_build (t := 30) ?_) | (with_reducible refine stop_bs (t := 59) ?_) | (with_reducible refine stop_app ?_))
 (with_reducible refine ⟨?_⟩); (with_reducible refine at_any ?_ ?_); (focus go_simp); refine fun K0 hK => st_at _ _ wr.heap.size A HAI.out.raw.ok rfl rfl rfl (Bk.new rfl _ _) (by rfl) (fun w2 hd9 ho => hK _ _ ?_)
 clear hK
 have xx : Ex wr w2 := ho.below wr.heap.size (Nat.le_refl _) wr (Ex.alloc wr _)
 replace P := Lib.hid (P.out.ext xx)
 obtain ⟨g, hg⟩ : ∃ g, g = wr.heap.size := ⟨_, rfl⟩
 rw [← hg] at hd9 ⊢
 have GA : Hid (AB w2 g A) := Lib.hid ⟨hd9⟩
 clear xx ho hd9 hg
 obtain ⟨c9, hand, hc9⟩ := and_mask A.v.id 7 (by decide)
 obtain ⟨u, hu⟩ : ∃ u : UInt8, u.toNat = c9 := ⟨UInt8.ofNat c9, by rw [UInt8.toNat_ofNat']; exact Nat.mod_eq_of_lt (by omega)⟩
 rw [← hu] at hand hc9
 have hmask : bits BinOp.and IntKind.i64 A.v.id 7 % 256 = ((u.toNat : Nat) : Int) := by rw [show bits BinOp.and IntKind.i64 A.v.id 7 = ((u.toNat : Nat) : Int) from hand]; omega
 have HMK := Lib.hid hmask
 clear hu hand hc9 hmask
 go_wp2_with (first | (with_reducible refine stop_load (t := 30) ?_) | (with_reducible refine stop_store (t := 30) ?_) | (with_reducible refine stop_load (t := 24) ?_) | (with_reducible refine stop_store (t := 24) ?_) | (with_reducible refine stop_load (t := 48) ?_) | (with_reducible refine stop_store (t := 48) ?_) | (with_reducible refine stop_load (t := 51) ?_) | (with_reducible refine stop_store (t := 51) ?_) | (with_reducible refine stop_build (t := 30) ?_) | (with_reducible refine stop_bs (t := 59) ?_) | (with_reducible refine stop_app ?_))
 (with_reducible refine ⟨?_⟩); (with_reducible refine at_any ?_ ?_); (focus go_simp); refine fun K0 hK => ld_kv _ g 1 A.v rfl rfl GA.out.kv (hK _ _ ?_)
 clear hK
 obtain ⟨d0, d1, d9⟩ := GA.out.cells
 go_wp2_with (first | (with_reducible refine stop_load (t := 30) ?_) | (with_reducible refine stop_store (t := 30) ?_) | (with_reducible refine stop_load (t := 24) ?_) | (with_reducible refine stop_store (t := 24) ?_) | (with_reducible refine stop_load (t := 48) ?_) | (with_reducible refine stop_store (t := 48) ?_) | (with_reducible refine stop_load (t := 51) ?_) | (with_reducible refine stop_store (t := 51) ?_) | (with_reducible refine stop_build (t := 30) ?_) | (with_reducible refine stop_bs (t := 59) ?_) | (with_reducible refine stop_app ?_))
 rw [HMK.out]
 refine (kv_any A.v [u, 0, 0, 0] rfl w2 (HAI.out.v.ext P.out.ex)).mono ?_
 rintro e wz ⟨z, rfl, hzn, -, -, x3⟩
 have HZ := Lib.hid hzn
 replace GA := Lib.hid (GA.out.ext x3)
 replace P := Lib.hid (P.out.ext x3)
 clear hzn x3 d0 d1 d9 HMK
 go_wp2_with (first | (with_reducible refine stop_load (t := 30) ?_) | (with_reducible refine stop_store (t := 30) ?_) | (with_reducible refine stop_load (t := 24) ?_) | (with_reducible refine stop_store (t := 24) ?_) | (with_reducible refine stop_load (t := 48) ?_) | (with_reducible refine stop_store (t := 48) ?_) | (with_reducible refine stop_load (t := 51) ?_) | (with_reducible refine stop_store (t := 51) ?_) | (with_reducible refine stop_build (t := 30) ?_) | (with_reducible refine stop_bs (t := 59) ?_) | (with_reducible refine stop_app ?_))
 (with_reducible refine ⟨?_⟩); (with_reducible refine at_any ?_ ?_); (focus go_simp); refine fun K0 hK => st_v _ _ wz.heap.size z rfl rfl rfl HZ.out.ok (Bk.new rfl _ _) (by rfl) (fun wv hd ho => hK _ _ ?_)
 clear hK
 have xx : Ex wz wv := ho.below wz.heap.size (Nat.le_refl _) wz (Ex.alloc wz _)
 obtain ⟨gv, hgv⟩ : ∃ g, g = wz.heap.size := ⟨_, rfl⟩
 have HRG : Hid (rv.ownBlock ≠ some gv) := Lib.hid (fun e => by have := P.out.tb.row.own_lt e; omega)
 rw [← hgv] at hd ⊢
 have GV := Lib.hid hd
 have GB := Lib.hid (GA.out.ext xx)
 have XX := Lib.hid xx
 have HGV := Lib.hid hgv
 clear hd ho hgv xx
 have d1 := GB.out.cells.2.1
 go_wp2_with (first | (with_reducible refine stop_load (t := 30) ?_) | (with_reducible refine stop_store (t := 30) ?_) | (with_reducible refine stop_load (t := 24) ?_) | (with_reducible refine stop_store (t := 24) ?_) | (with_reducible refine stop_load (t := 48) ?_) | (with_reducible refine stop_store (t := 48) ?_) | (with_reducible refine stop_load (t := 51) ?_) | (with_reducible refine stop_store (t := 51) ?_) | (with_reducible refine stop_build (t := 30) ?_) | (with_reducible refine stop_bs (t := 59) ?_) | (with_reducible refine stop_app ?_))
 (with_reducible refine ⟨?_⟩); (with_reducible refine at_any ?_ ?_); (focus go_simp); refine fun K0 hK => ld_vr _ g 10 A.raw HAI.out.raw.ok rfl rfl GB.out.rw_ (hK _ _ ?_)
 clear hK
 go_wp2_with (first | (with_reducible refine stop_load (t := 30) ?_) | (with_reducible refine stop_store (t := 30) ?_) | (with_reducible refine stop_load (t := 24) ?_) | (with_reducible refine stop_store (t := 24) ?_) | (with_reducible refine stop_load (t := 48) ?_) | (with_reducible refine stop_store (t := 48) ?_) | (with_reducible refine stop_load (t := 51) ?_) | (with_reducible refine stop_store (t := 51) ?_) | (with_reducible refine stop_build (t := 30) ?_) | (with_reducible refine stop_bs (t := 59) ?_) | (with_reducible refine stop_app ?_))
 (with_reducible refine ⟨?_⟩); (with_reducible refine at_any ?_ ?_); (focus go_simp); refine fun K0 hK => st_v _ _ gv A.raw rfl rfl rfl HAI.out.raw.ok GV.out.2 (by rw [List.size_toArray, Vt.len GV.out.1]) (fun wv2 hd ho => hK _ _ ?_)
 clear hK
 have xx : Ex wz wv2 := ho.below wz.heap.size (Nat.le_of_eq HGV.out.symm) wz XX.out
 clear GV GB XX HGV d1
 obtain ⟨x, hx⟩ : ∃ x, x = A.raw := ⟨_, rfl⟩
 rw [← hx] at hd
 have EX : Hid (EL w wv2 x) := Lib.hid (by rw [hx]; exact ⟨HAI.out.raw.ok, Or.inl HAI.out.raw.sec⟩)
 clear hx HZ
 obtain ⟨wv, rfl⟩ : ∃ u, u = wv2 := ⟨_, rfl⟩
 replace GA := Lib.hid (GA.out.ext xx)
 replace P := Lib.hid (P.out.ext xx)
 have GV := Lib.hid hd
 clear hd ho xx
 go_wp2_with (first | (with_reducible refine stop_load (t := 30) ?_) | (with_reducible refine stop_store (t := 30) ?_) | (with_reducible refine stop_load (t := 24) ?_) | (with_reducible refine stop_store (t := 24) ?_) | (with_reducible refine stop_load (t := 48) ?_) | (with_reducible refine stop_store (t := 48) ?_) | (with_reducible refine stop_load (t := 51) ?_) | (with_reducible refine stop_store (t := 51) ?_) | (with_reducible refine stop_build (t := 30) ?_) | (with_reducible refine stop_bs (t := 59) ?_) | (with_reducible refine stop_app ?_))
 go_loopw [8, 9] (fun kk j wr => ∃ (jn : Nat) (kn : Int), jn ≤ N ∧ j = .int .i64 jn ∧ kk = .int .i64 kn ∧ Hid (KS ms (idn x.id) jn kn) ∧ Hid (Ex wv wr)) (fun _ j _ => N - (intOf j).toNat)
 case atStart => exact ⟨0, -1, by omega, rfl, rfl, Lib.hid (Or.inl ⟨rfl, fun q hq => absurd hq (Nat.not_lt_zero q)⟩), Lib.hid (Ex.refl _)⟩
 case round =>
  obtain ⟨j, kn, hj, rfl, rfl, HK, BX⟩ := hrel
  by_cases hlj : j < N
  ·have r0 : (0 : Int) ≤ (j : Int) := by omega
   have r1 : (j : Int) < (N : Int) := by omega
   obtain ⟨y, hy⟩ : ∃ y, ms[j]? = some y := ⟨_, List.getElem?_eq_getElem (by rw [← HN.out]; omega)⟩
   obtain ⟨ad9, cap9, e9, hin9, _⟩ := P.out.inn
   rw [← HN.out] at e9
   cases e9
   obtain ⟨am, om, rfl, ham, hrm⟩ := hin9.read (by rw [← HN.out]; omega)
   have YR := Lib.hid (range_ex (hrm j y hy) BX.out ham)
   have HAM := Lib.hid (Nat.lt_of_lt_of_le ham BX.out.sz')
   have YO := Lib.hid (hin9.ok j y hy)
   have HFJ := Lib.hid (idF_at ms j y hy)
   obtain ⟨b, hb⟩ : ∃ b, b = decide (y.id = x.id) := ⟨_, rfl⟩
   have HB := Lib.hid hb
   clear hin9 ham hrm hy hb
   go_wp2_with (first | (with_reducible refine stop_load (t := 30) ?_) | (with_reducible refine stop_store (t := 30) ?_) | (with_reducible refine stop_load (t := 24) ?_) | (with_reducible refine stop_store (t := 24) ?_) | (with_reducible refine stop_load (t := 48) ?_) | (with_reducible refine stop_store (t := 48) ?_) | (with_reducible refine stop_load (t := 51) ?_) | (with_reducible refine stop_store (t := 51) ?_) | (with_reducible refine stop_build (t := 30) ?_) | (with_reducible refine stop_bs (t := 59) ?_) | (with_reducible refine stop_app ?_))
   obtain ⟨T, hT⟩ : ∃ T : List (Rw wr.heap.size), T = [.is (.slice (some ⟨am, om, none⟩) N capm), .is (.int .i64 j), .is (.pointer (some ⟨am, om + j * 42, none⟩)), .is (.pointer (some ⟨am, om + j * 42, none⟩)), .is (digV y.id), .is (.pointer (some ⟨gv, 0, none⟩)), .is (digV x.id), .is (.bool b)] := ⟨_, rfl⟩
   have HTY : T.map Rw.tys = ([[], [], [], [], [], [], [], []] : List (List Nat)) := by rw [hT]; rfl
   refine wp_region_gen (JW wr.heap.size wr [0] T ([[], [], [], [], [], [], [], []] : List (List Nat)) ([none, none, none, none, none, none, none, none] : List (Option Nat)) ([] : List (Nat × Nat)) 100000) (by kernel_rfl) (by kernel_rfl) (by kernel_rfl) (fitB_spec (by kernel_rfl)) (fun listed f h => JW.start (Nat.le_refl _) listed f h) ?_ ?_
   ·intro i o ho
    have hi : i < 8 := (Array.getElem?_eq_some_iff.1 ho).1
    have hi' : i = 0 ∨ i = 1 ∨ i = 2 ∨ i = 3 ∨ i = 4 ∨ i = 5 ∨ i = 6 ∨ i = 7 := by omega
    clear hi
    rcases hi' with rfl | rfl | rfl | rfl | rfl | rfl | rfl | rfl
    all_goals (simp only [List.getElem?_toArray, List.getElem?_cons_zero, List.getElem?_cons_succ, Option.some.injEq] at ho; subst ho; intro listed f a w3 hJ hsz hls hun hdep hout hlat)
    ·rw [if_pos (by rfl)]
     intro K hK
     have q4 := hout 4 (outB_spec (by kernel_rfl))
     have hord := no_ord 0 listed
     refine wp_mv _ rfl (hK _ _ ?_)
     rw [show a.eval (.tmp 4) = .slice (some ⟨am, om, none⟩) N capm from q4]
     exact hJ.plain HTY (by rw [hls]; decide) (Ex.refl _) (by rw [hT]; rfl) hord
    ·rw [if_pos (by rfl)]
     intro K hK
     have q9 := hout 9 (outB_spec (by kernel_rfl))
     have hord := no_ord 1 listed
     refine wp_mv _ rfl (hK _ _ ?_)
     rw [show a.eval (.tmp 9) = .int .i64 j from q9]
     exact hJ.plain HTY (by rw [hls]; decide) (Ex.refl _) (by rw [hT]; rfl) hord
    ·rw [if_pos (by rfl)]
     intro K hK
     have dd55 := hdep ⟨0, .data⟩ (by simp) rfl
     have q55 := dd55.2 _ rfl _ rfl
     have h55 := hJ.vals 0 dd55.1 no_c
     rw [hT] at h55
     rw [show f 0 = .slice (some ⟨am, om, none⟩) N capm from h55] at q55
     clear h55
     clear dd55
     have dd56 := hdep ⟨1, .data⟩ (by simp) rfl
     have q56 := dd56.2 _ rfl _ rfl
     have h56 := hJ.vals 1 dd56.1 no_c
     rw [hT] at h56
     rw [show f 1 = .int .i64 j from h56] at q56
     clear h56
     clear dd56
     have hord := no_ord 2 listed
     rw [Array.getD_eq_getD_getElem?] at q55
     rw [Array.getD_eq_getD_getElem?] at q56
     clear hsz hdep hout hlat
     go_simp
     exact hK _ _ (hJ.plain HTY (by rw [hls]; decide) (Ex.refl _) (by rw [hT]; first | rfl | exact int_eq (by omega) | exact int_eq (by rw [IntKind.wrap_i64]; omega)) hord)
    ·rw [if_pos (by rfl)]
     intro K hK
     have dd57 := hdep ⟨2, .data⟩ (by simp) rfl
     have q57 := dd57.2 _ rfl _ rfl
     have h57 := hJ.vals 2 dd57.1 no_c
     rw [hT] at h57
     rw [show f 2 = .pointer (some ⟨am, om + j * 42, none⟩) from h57] at q57
     clear h57
     clear dd57
     have hord := no_ord 3 listed
     rw [Array.getD_eq_getD_getElem?] at q57
     clear hsz hdep hout hlat
     go_simp
     exact hK _ _ (hJ.plain HTY (by rw [hls]; decide) (Ex.refl _) (by rw [hT]; first | rfl | exact int_eq (by omega) | exact int_eq (by rw [IntKind.wrap_i64]; omega)) hord)
    ·rw [if_pos (by rfl)]
     intro K hK
     have dd58 := hdep ⟨3, .data⟩ (by simp) rfl
     have q58 := dd58.2 _ rfl _ rfl
     have h58 := hJ.vals 3 dd58.1 no_c
     rw [hT] at h58
     rw [show f 3 = .pointer (some ⟨am, om + j * 42, none⟩) from h58] at q58
     clear h58
     clear dd58
     have hord := no_ord 4 listed
     exact ld_vidr (.tmp 58) am (om + j * 42) y YO.out rfl q58 (range_ex YR.out hJ.ext.below HAM.out) (hK _ _ (hJ.plain HTY (by rw [hls]; decide) (Ex.refl _) (by rw [hT]; rfl) hord))
    ·rw [if_pos (by rfl)]
     intro K hK
     have q7 := hout 7 (outB_spec (by kernel_rfl))
     have hord := no_ord 5 listed
     rw [Array.getD_eq_getD_getElem?] at q7
     clear hsz hdep hout hlat
     go_simp
     exact hK _ _ (hJ.plain HTY (by rw [hls]; decide) (Ex.refl _) (by rw [hT]; first | rfl | exact int_eq (by omega) | exact int_eq (by rw [IntKind.wrap_i64]; omega)) hord)
    ·rw [if_pos (by rfl)]
     intro K hK
     have dd60 := hdep ⟨5, .data⟩ (by simp) rfl
     have q60 := dd60.2 _ rfl _ rfl
     have h60 := hJ.vals 5 dd60.1 no_c
     rw [hT] at h60
     rw [show f 5 = .pointer (some ⟨gv, 0, none⟩) from h60] at q60
     clear h60
     clear dd60
     have hord := no_ord 6 listed
     exact ld_vid (.tmp 60) gv x rfl q60 (GV.out.ext (Ex.trans BX.out hJ.ext.below)) (hK _ _ (hJ.plain HTY (by rw [hls]; decide) (Ex.refl _) (by rw [hT]; rfl) hord))
    ·rw [if_pos (by rfl)]
     intro K hK
     have dd59 := hdep ⟨4, .data⟩ (by simp) rfl
     have q59 := dd59.2 _ rfl _ rfl
     have h59 := hJ.vals 4 dd59.1 no_c
     rw [hT] at h59
     rw [show f 4 = digV y.id from h59] at q59
     clear h59
     clear dd59
     have dd61 := hdep ⟨6, .data⟩ (by simp) rfl
     have q61 := dd61.2 _ rfl _ rfl
     have h61 := hJ.vals 6 dd61.1 no_c
     rw [hT] at h61
     rw [show f 6 = digV x.id from h61] at q61
     clear h61
     clear dd61
     have hord := no_ord 7 listed
     refine wp_eql_id _ _ _ rfl y.id x.id YO.out.idN GV.out.1.idN q59 q61 ?_
     rw [← HB.out]
     exact hK _ _ (hJ.plain HTY (by rw [hls]; decide) (Ex.refl _) (by rw [hT]; rfl) hord)
   ·intro listed f w3 hall hJ
    have f7 : f 7 = .bool b := by
     have h := hJ.vals 7 (hall 7 (by simp)) no_c
     rw [hT] at h; exact h
    have xk := hJ.ext
    simp only [putAll, Act.put, List.setIfInBounds_toArray, List.set_cons_zero, List.set_cons_succ, Nat.zero_add, Nat.reduceAdd]
    rw [f7]
    clear f7
    clear hJ hall hT HTY
    generalize f 0 = y0
    generalize f 1 = y1
    generalize f 2 = y2
    generalize f 3 = y3
    generalize f 4 = y4
    generalize f 5 = y5
    generalize f 6 = y6
    replace BX := Lib.hid (Ex.trans BX.out (show Ex wr w3 from xk.below))
    clear xk
    cases b
    ·have hne : idF ms j ≠ idn x.id := by
      rw [HFJ.out]; exact fun e => of_decide_eq_false HB.out.symm (idn_inj YO.out.idN GV.out.1.idN e)
     have HNE := Lib.hid hne
     clear hne
     go_wp2_with (first | (with_reducible refine stop_load (t := 30) ?_) | (with_reducible refine stop_store (t := 30) ?_) | (with_reducible refine stop_load (t := 24) ?_) | (with_reducible refine stop_store (t := 24) ?_) | (with_reducible refine stop_load (t := 48) ?_) | (with_reducible refine stop_store (t := 48) ?_) | (with_reducible refine stop_load (t := 51) ?_) | (with_reducible refine stop_store (t := 51) ?_) | (with_reducible refine stop_build (t := 30) ?_) | (with_reducible refine stop_bs (t := 59) ?_) | (with_reducible refine stop_app ?_))
     (first | (refine ⟨?_, ?measure⟩; (repeat apply Exists.intro); refine ⟨?rel, rfl⟩) | refine ⟨?rel, ?measure⟩)
     case rel => exact ⟨j + 1, kn, by omega, by go_num, rfl, Lib.hid (by
           rcases HK.out with ⟨h1, h2⟩ | ⟨p, h1, h2, h3⟩
           ·exact Or.inl ⟨h1, fun q hq => by
             rcases Nat.eq_or_lt_of_le (Nat.le_of_lt_succ hq) with h | h
             ·rw [h]; exact HNE.out
             ·exact h2 q h⟩
           ·exact Or.inr ⟨p, by omega, h2, h3⟩), BX⟩
     case measure => simp [intOf]; omega
    ·have heq : idF ms j = idn x.id := by rw [HFJ.out, of_decide_eq_true HB.out.symm]
     have HEQ := Lib.hid heq
     clear heq
     go_wp2_with (first | (with_reducible refine stop_load (t := 30) ?_) | (with_reducible refine stop_store (t := 30) ?_) | (with_reducible refine stop_load (t := 24) ?_) | (with_reducible refine stop_store (t := 24) ?_) | (with_reducible refine stop_load (t := 48) ?_) | (with_reducible refine stop_store (t := 48) ?_) | (with_reducible refine stop_load (t := 51) ?_) | (with_reducible refine stop_store (t := 51) ?_) | (with_reducible refine stop_build (t := 30) ?_) | (with_reducible refine stop_bs (t := 59) ?_) | (with_reducible refine stop_app ?_))
     (first | (refine ⟨?_, ?measure⟩; (repeat apply Exists.intro); refine ⟨?rel, rfl⟩) | refine ⟨?rel, ?measure⟩)
     case rel => exact ⟨j + 1, (j : Int), by omega, by go_num, rfl, Lib.hid (Or.inr ⟨j, by omega, rfl, HEQ.out⟩), BX⟩
     case measure => simp [intOf]; omega
  ·obtain rfl : N = j := by omega
   have r1 : ¬ (N : Int) < (N : Int) := by omega
   skip
   replace P := Lib.hid (P.out.ext BX.out)
   replace GA := Lib.hid (GA.out.ext BX.out)
   replace GV := Lib.hid (GV.out.ext BX.out)
   replace EX := Lib.hid (EX.out.ext BX.out)
   clear BX
   skip
   have d0 := GA.out.cells.1
   have HGR : Hid (rv.ownBlock ≠ some gv) := Lib.hid HRG.out
   have hk4 := hkind.1
   have hk5 := hkind.2
   rcases HK.out with ⟨rfl, hno⟩ | ⟨p, hp, rfl, hpf⟩
   ·rw [HN.out] at hno
    have HNO := Lib.hid (ks_no P.out hno)
    clear hno
    go_wp2_with (first | (with_reducible refine stop_load (t := 30) ?_) | (with_reducible refine stop_store (t := 30) ?_) | (with_reducible refine stop_load (t := 24) ?_) | (with_reducible refine stop_store (t := 24) ?_) | (with_reducible refine stop_load (t := 48) ?_) | (with_reducible refine stop_store (t := 48) ?_) | (with_reducible refine stop_load (t := 51) ?_) | (with_reducible refine stop_store (t := 51) ?_) | (with_reducible refine stop_build (t := 30) ?_) | (with_reducible refine stop_bs (t := 59) ?_) | (with_reducible refine stop_app ?_))
    (with_reducible refine ⟨?_⟩); (with_reducible refine at_any ?_ ?_); (focus go_simp); refine fun K0 hK => ld_v _ gv x rfl rfl GV.out (hK _ _ ?_)
    clear hK
    go_wp2_with (first | (with_reducible refine stop_load (t := 30) ?_) | (with_reducible refine stop_store (t := 30) ?_) | (with_reducible refine stop_load (t := 24) ?_) | (with_reducible refine stop_store (t := 24) ?_) | (with_reducible refine stop_load (t := 48) ?_) | (with_reducible refine stop_store (t := 48) ?_) | (with_reducible refine stop_load (t := 51) ?_) | (with_reducible refine stop_store (t := 51) ?_) | (with_reducible refine stop_build (t := 30) ?_) | (with_reducible refine stop_bs (t := 59) ?_) | (with_reducible refine stop_app ?_))
    refine (rright_any x wr (EX.out.vi P.out.ex)).mono ?_
    rintro e wg ⟨rfl, x2⟩
    replace P := Lib.hid (P.out.ext x2)
    replace GV := Lib.hid (GV.out.ext x2)
    replace EX := Lib.hid (EX.out.ext x2)
    clear x2 GA d0
    obtain ⟨br, hbr⟩ : ∃ b, b = x.ct.right := ⟨_, rfl⟩
    have HBR := Lib.hid hbr
    rw [← hbr]
    clear hbr
    cases br
    ·skip
     go_wp2_with (first | (with_reducible refine stop_load (t := 30) ?_) | (with_reducible refine stop_store (t := 30) ?_) | (with_reducible refine stop_load (t := 24) ?_) | (with_reducible refine stop_store (t := 24) ?_) | (with_reducible refine stop_load (t := 48) ?_) | (with_reducible refine stop_store (t := 48) ?_) | (with_reducible refine stop_load (t := 51) ?_) | (with_reducible refine stop_store (t := 51) ?_) | (with_reducible refine stop_build (t := 30) ?_) | (with_reducible refine stop_bs (t := 59) ?_) | (with_reducible refine stop_app ?_))
     (with_reducible refine ⟨?_⟩); (with_reducible refine at_any ?_ ?_); (focus go_simp); refine fun K0 hK => ld_v _ gv x rfl rfl GV.out (hK _ _ ?_)
     clear hK
     go_wp2_with (first | (with_reducible refine stop_load (t := 30) ?_) | (with_reducible refine stop_store (t := 30) ?_) | (with_reducible refine stop_load (t := 24) ?_) | (with_reducible refine stop_store (t := 24) ?_) | (with_reducible refine stop_load (t := 48) ?_) | (with_reducible refine stop_store (t := 48) ?_) | (with_reducible refine stop_load (t := 51) ?_) | (with_reducible refine stop_store (t := 51) ?_) | (with_reducible refine stop_build (t := 30) ?_) | (with_reducible refine stop_bs (t := 59) ?_) | (with_reducible refine stop_app ?_))
     refine (tput_any D rv vs x wg P.out.tb (EX.out.vi P.out.ex)).mono ?_
     rintro e wp hpp
     have h1 : e = .returned (.int .i64 1) ∧ Ex wg wp := by
      rcases hpp with ⟨_, h1, h2⟩ | ⟨h1, _⟩
      ·exact ⟨h1, h2⟩
      ·rw [← HBR.out] at h1; cases h1
     obtain ⟨rfl, x3⟩ := h1
     replace P := Lib.hid (P.out.ext x3)
     clear hpp x3
     go_wp2_with (first | (with_reducible refine stop_load (t := 30) ?_) | (with_reducible refine stop_store (t := 30) ?_) | (with_reducible refine stop_load (t := 24) ?_) | (with_reducible refine stop_store (t := 24) ?_) | (with_reducible refine stop_load (t := 48) ?_) | (with_reducible refine stop_store (t := 48) ?_) | (with_reducible refine stop_load (t := 51) ?_) | (with_reducible refine stop_store (t := 51) ?_) | (with_reducible refine stop_build (t := 30) ?_) | (with_reducible refine stop_bs (t := 59) ?_) | (with_reducible refine stop_app ?_))
     have CL := tlen_any D rv vs wp P.out.tb
     rw [P.out.len] at CL
     rw [← HN.out] at CL
     refine CL.mono ?_
     rintro e wl ⟨rfl, hwl⟩
     subst hwl
     clear CL
     go_wp2_with (first | (with_reducible refine stop_load (t := 30) ?_) | (with_reducible refine stop_store (t := 30) ?_) | (with_reducible refine stop_load (t := 24) ?_) | (with_reducible refine stop_store (t := 24) ?_) | (with_reducible refine stop_load (t := 48) ?_) | (with_reducible refine stop_store (t := 48) ?_) | (with_reducible refine stop_load (t := 51) ?_) | (with_reducible refine stop_store (t := 51) ?_) | (with_reducible refine stop_build (t := 30) ?_) | (with_reducible refine stop_bs (t := 59) ?_) | (with_reducible refine stop_app ?_))
     refine (tall_any D rv vs wp P.out.tb).mono ?_
     rintro e wt ⟨vt, ts, rfl, hvr, hc2, x5⟩
     obtain ⟨adt, capt, rfl, hit, hct9⟩ := hvr.inn2
     replace P := Lib.hid (P.out.ext x5)
     have HTS := Lib.hid hvr
     have HC2 := Lib.hid hc2
     have HCT9 := Lib.hid hct9
     clear hvr hc2 x5 hit hct9
     go_wp2_with (first | (with_reducible refine stop_load (t := 30) ?_) | (with_reducible refine stop_store (t := 30) ?_) | (with_reducible refine stop_load (t := 24) ?_) | (with_reducible refine stop_store (t := 24) ?_) | (with_reducible refine stop_load (t := 48) ?_) | (with_reducible refine stop_store (t := 48) ?_) | (with_reducible refine stop_load (t := 51) ?_) | (with_reducible refine stop_store (t := 51) ?_) | (with_reducible refine stop_build (t := 30) ?_) | (with_reducible refine stop_bs (t := 59) ?_) | (with_reducible refine stop_app ?_))
     obtain ⟨ad8, cap8, e8, hin8, hc8⟩ := P.out.inn
     rw [← HN.out] at e8
     cases e8
     have CV := rvs_any adt _ capt _ ts ms HCT9.out hc8 wt HTS.out.rd.1 hin8 HTS.out.vis P.out.vis
     rw [← HN.out] at CV
     rw [decide_eq_true (HC2.out.trans P.out.ct)] at CV
     refine CV.mono ?_
     rintro e wu ⟨rfl, x9⟩
     replace P := Lib.hid (P.out.ext x9)
     clear CV x9 HTS HC2 HCT9 hin8 hc8
     go_wp2_with (first | (with_reducible refine stop_load (t := 30) ?_) | (with_reducible refine stop_store (t := 30) ?_) | (with_reducible refine stop_load (t := 24) ?_) | (with_reducible refine stop_store (t := 24) ?_) | (with_reducible refine stop_load (t := 48) ?_) | (with_reducible refine stop_store (t := 48) ?_) | (with_reducible refine stop_load (t := 51) ?_) | (with_reducible refine stop_store (t := 51) ?_) | (with_reducible refine stop_build (t := 30) ?_) | (with_reducible refine stop_bs (t := 59) ?_) | (with_reducible refine stop_app ?_))
     refine ⟨⟨_, rv, k + 1, vs, ms, ⟨by omega, P⟩, rfl, rfl, rfl, rfl, rfl, rfl, rfl⟩, by simp [p12M, intOf]; omega⟩
    ·by_cases h4 : N = 4
     ·have h4i : (4 : Int) ≤ (N : Int) := by omega
      clear h4
      go_wp2_with (first | (with_reducible refine stop_load (t := 30) ?_) | (with_reducible refine stop_store (t := 30) ?_) | (with_reducible refine stop_load (t := 24) ?_) | (with_reducible refine stop_store (t := 24) ?_) | (with_reducible refine stop_load (t := 48) ?_) | (with_reducible refine stop_store (t := 48) ?_) | (with_reducible refine stop_load (t := 51) ?_) | (with_reducible refine stop_store (t := 51) ?_) | (with_reducible refine stop_build (t := 30) ?_) | (with_reducible refine stop_bs (t := 59) ?_) | (with_reducible refine stop_app ?_))
      (with_reducible refine ⟨?_⟩); (with_reducible refine at_any ?_ ?_); (focus go_simp); refine fun K0 hK => ld_v _ gv x rfl rfl GV.out (hK _ _ ?_)
      clear hK
      go_wp2_with (first | (with_reducible refine stop_load (t := 30) ?_) | (with_reducible refine stop_store (t := 30) ?_) | (with_reducible refine stop_load (t := 24) ?_) | (with_reducible refine stop_store (t := 24) ?_) | (with_reducible refine stop_load (t := 48) ?_) | (with_reducible refine stop_store (t := 48) ?_) | (with_reducible refine stop_load (t := 51) ?_) | (with_reducible refine stop_store (t := 51) ?_) | (with_reducible refine stop_build (t := 30) ?_) | (with_reducible refine stop_bs (t := 59) ?_) | (with_reducible refine stop_app ?_))
      refine (tput_any D rv vs x wg P.out.tb (EX.out.vi P.out.ex)).mono ?_
      rintro e wp hpp
      have h1 : e = .returned (.int .i64 13) ∧ Ex wg wp := by
       rcases hpp with ⟨h1, _⟩ | ⟨_, p, _, ⟨z, h1, h2, _⟩ | ⟨_, _, h1, h2⟩ | ⟨z, rv9, _, h1, _⟩⟩
       ·rw [← HBR.out] at h1; cases h1
       ·exact absurd ⟨p, h1, h2⟩ HNO.out
       ·exact ⟨h1, h2⟩
       ·rw [P.out.len, ← HN.out] at h1; omega
      obtain ⟨rfl, x3⟩ := h1
      replace P := Lib.hid (P.out.ext x3)
      clear hpp x3
      go_wp2_with (first | (with_reducible refine stop_load (t := 30) ?_) | (with_reducible refine stop_store (t := 30) ?_) | (with_reducible refine stop_load (t := 24) ?_) | (with_reducible refine stop_store (t := 24) ?_) | (with_reducible refine stop_load (t := 48) ?_) | (with_reducible refine stop_store (t := 48) ?_) | (with_reducible refine stop_load (t := 51) ?_) | (with_reducible refine stop_store (t := 51) ?_) | (with_reducible refine stop_build (t := 30) ?_) | (with_reducible refine stop_bs (t := 59) ?_) | (with_reducible refine stop_app ?_))
      have CL := tlen_any D rv vs wp P.out.tb
      rw [P.out.len] at CL
      rw [← HN.out] at CL
      refine CL.mono ?_
      rintro e wl ⟨rfl, hwl⟩
      subst hwl
      clear CL
      go_wp2_with (first | (with_reducible refine stop_load (t := 30) ?_) | (with_reducible refine stop_store (t := 30) ?_) | (with_reducible refine stop_load (t := 24) ?_) | (with_reducible refine stop_store (t := 24) ?_) | (with_reducible refine stop_load (t := 48) ?_) | (with_reducible refine stop_store (t := 48) ?_) | (with_reducible refine stop_load (t := 51) ?_) | (with_reducible refine stop_store (t := 51) ?_) | (with_reducible refine stop_build (t := 30) ?_) | (with_reducible refine stop_bs (t := 59) ?_) | (with_reducible refine stop_app ?_))
      refine (tall_any D rv vs wp P.out.tb).mono ?_
      rintro e wt ⟨vt, ts, rfl, hvr, hc2, x5⟩
      obtain ⟨adt, capt, rfl, hit, hct9⟩ := hvr.inn2
      replace P := Lib.hid (P.out.ext x5)
      have HTS := Lib.hid hvr
      have HC2 := Lib.hid hc2
      have HCT9 := Lib.hid hct9
      clear hvr hc2 x5 hit hct9
      go_wp2_with (first | (with_reducible refine stop_load (t := 30) ?_) | (with_reducible refine stop_store (t := 30) ?_) | (with_reducible refine stop_load (t := 24) ?_) | (with_reducible refine stop_store (t := 24) ?_) | (with_reducible refine stop_load (t := 48) ?_) | (with_reducible refine stop_store (t := 48) ?_) | (with_reducible refine stop_load (t := 51) ?_) | (with_reducible refine stop_store (t := 51) ?_) | (with_reducible refine stop_build (t := 30) ?_) | (with_reducible refine stop_bs (t := 59) ?_) | (with_reducible refine stop_app ?_))
      obtain ⟨ad8, cap8, e8, hin8, hc8⟩ := P.out.inn
      rw [← HN.out] at e8
      cases e8
      have CV := rvs_any adt _ capt _ ts ms HCT9.out hc8 wt HTS.out.rd.1 hin8 HTS.out.vis P.out.vis
      rw [← HN.out] at CV
      rw [decide_eq_true (HC2.out.trans P.out.ct)] at CV
      refine CV.mono ?_
      rintro e wu ⟨rfl, x9⟩
      replace P := Lib.hid (P.out.ext x9)
      clear CV x9 HTS HC2 HCT9 hin8 hc8
      go_wp2_with (first | (with_reducible refine stop_load (t := 30) ?_) | (with_reducible refine stop_store (t := 30) ?_) | (with_reducible refine stop_load (t := 24) ?_) | (with_reducible refine stop_store (t := 24) ?_) | (with_reducible refine stop_load (t := 48) ?_) | (with_reducible refine stop_store (t := 48) ?_) | (with_reducible refine stop_load (t := 51) ?_) | (with_reducible refine stop_store (t := 51) ?_) | (with_reducible refine stop_build (t := 30) ?_) | (with_reducible refine stop_bs (t := 59) ?_) | (with_reducible refine stop_app ?_))
      refine ⟨⟨_, rv, k + 1, vs, ms, ⟨by omega, P⟩, rfl, rfl, rfl, rfl, rfl, rfl, rfl⟩, by simp [p12M, intOf]; omega⟩
     ·have h4i : ¬ (4 : Int) ≤ (N : Int) := by omega
      go_wp2_with (first | (with_reducible refine stop_load (t := 30) ?_) | (with_reducible refine stop_store (t := 30) ?_) | (with_reducible refine stop_load (t := 24) ?_) | (with_reducible refine stop_store (t := 24) ?_) | (with_reducible refine stop_load (t := 48) ?_) | (with_reducible refine stop_store (t := 48) ?_) | (with_reducible refine stop_load (t := 51) ?_) | (with_reducible refine stop_store (t := 51) ?_) | (with_reducible refine stop_build (t := 30) ?_) | (with_reducible refine stop_bs (t := 59) ?_) | (with_reducible refine stop_app ?_))
      (with_reducible refine ⟨?_⟩); (with_reducible refine at_any ?_ ?_); (focus go_simp); refine fun K0 hK => ld_v _ gv x rfl rfl GV.out (hK _ _ ?_)
      clear hK
      go_wp2_with (first | (with_reducible refine stop_load (t := 30) ?_) | (with_reducible refine stop_store (t := 30) ?_) | (with_reducible refine stop_load (t := 24) ?_) | (with_reducible refine stop_store (t := 24) ?_) | (with_reducible refine stop_load (t := 48) ?_) | (with_reducible refine stop_store (t := 48) ?_) | (with_reducible refine stop_load (t := 51) ?_) | (with_reducible refine stop_store (t := 51) ?_) | (with_reducible refine stop_build (t := 30) ?_) | (with_reducible refine stop_bs (t := 59) ?_) | (with_reducible refine stop_app ?_))
      refine (tput_any D rv vs x wg P.out.tb (EX.out.vi P.out.ex)).mono ?_
      rintro e wp hpp
      have h1 : ∃ p z rv2, BI vs.length (idF vs) (idn x.id) p ∧ e = .returned (.int .i64 0) ∧ z.ct = x.ct ∧ TB wp D rv2 (vs.take p ++ z :: vs.drop p) ∧ Tc D rv.ownBlock wg wp := by
       rcases hpp with ⟨h1, _⟩ | ⟨_, p, hb, ⟨z, h1, h2, _⟩ | ⟨_, h1, _⟩ | ⟨z, rv9, _, _, h2, h3, h5, h6, _⟩⟩
       ·rw [← HBR.out] at h1; cases h1
       ·exact absurd ⟨p, h1, h2⟩ HNO.out
       ·rw [P.out.len, ← HN.out] at h1; omega
       ·exact ⟨p, z, rv9, hb, h2, h3, h5, h6⟩
      obtain ⟨p, z, rv2, hb, rfl, hz, ht2, htc⟩ := h1
      have HCT := Lib.hid (ct_ins P.out hb HNO.out hz)
      have HT2 := Lib.hid ht2
      have HTC := Lib.hid htc
      obtain ⟨vs2, hvs2⟩ : ∃ l, l = vs.take p ++ z :: vs.drop p := ⟨_, rfl⟩
      rw [← hvs2] at HCT HT2
      have GV2 : Hid (VB wp gv x) := Lib.hid (VB.tc GV.out htc P.out.tb HGR.out)
      clear hpp hb hz ht2 htc hvs2 GV
      go_wp2_with (first | (with_reducible refine stop_load (t := 30) ?_) | (with_reducible refine stop_store (t := 30) ?_) | (with_reducible refine stop_load (t := 24) ?_) | (with_reducible refine stop_store (t := 24) ?_) | (with_reducible refine stop_load (t := 48) ?_) | (with_reducible refine stop_store (t := 48) ?_) | (with_reducible refine stop_load (t := 51) ?_) | (with_reducible refine stop_store (t := 51) ?_) | (with_reducible refine stop_build (t := 30) ?_) | (with_reducible refine stop_bs (t := 59) ?_) | (with_reducible refine stop_app ?_))
      (with_reducible refine ⟨?_⟩); (with_reducible refine at_any ?_ ?_); (focus go_simp); refine fun K0 hK => ld_v _ gv x rfl rfl GV2.out (hK _ _ ?_)
      clear hK
      go_wp2_with (first | (with_reducible refine stop_load (t := 30) ?_) | (with_reducible refine stop_store (t := 30) ?_) | (with_reducible refine stop_load (t := 24) ?_) | (with_reducible refine stop_store (t := 24) ?_) | (with_reducible refine stop_load (t := 48) ?_) | (with_reducible refine stop_store (t := 48) ?_) | (with_reducible refine stop_load (t := 51) ?_) | (with_reducible refine stop_store (t := 51) ?_) | (with_reducible refine stop_build (t := 30) ?_) | (with_reducible refine stop_bs (t := 59) ?_) | (with_reducible refine stop_app ?_))
      obtain ⟨ad9, cap9, e9, hin9⟩ := P.out.inn_tc HTC.out
      rw [← HN.out] at e9
      cases e9
      have CP := placed_any _ _ ms (by rw [← HN.out]; exact hN4) x GV2.out.1 wp hin9
      rw [← HN.out] at CP
      refine CP.mono ?_
      rintro e wq ⟨vq, rfl, hrow, x4⟩
      clear CP hin9
      have P2 : Hid (PS w wq D rv2 (vs2) vq (lts (idn x.id) ms ++ [x] ++ gts (idn x.id) ms)) := Lib.hid (P.out.put HT2.out HTC.out EX.out hrow x4 HCT.out)
      obtain ⟨ms2, hms2⟩ : ∃ l, l = lts (idn x.id) ms ++ [x] ++ gts (idn x.id) ms := ⟨_, rfl⟩
      rw [← hms2] at P2
      clear P hms2 hrow x4 HT2 HTC HCT EX GV2
      have P := P2
      clear P2
      obtain ⟨adq, capq, rfl, _⟩ := P.out.inn
      go_wp2_with (first | (with_reducible refine stop_load (t := 30) ?_) | (with_reducible refine stop_store (t := 30) ?_) | (with_reducible refine stop_load (t := 24) ?_) | (with_reducible refine stop_store (t := 24) ?_) | (with_reducible refine stop_load (t := 48) ?_) | (with_reducible refine stop_store (t := 48) ?_) | (with_reducible refine stop_load (t := 51) ?_) | (with_reducible refine stop_store (t := 51) ?_) | (with_reducible refine stop_build (t := 30) ?_) | (with_reducible refine stop_bs (t := 59) ?_) | (with_reducible refine stop_app ?_))
      have CL := tlen_any D rv2 vs2 wq P.out.tb
      rw [P.out.len] at CL
      refine CL.mono ?_
      rintro e wl ⟨rfl, hwl⟩
      subst hwl
      clear CL
      go_wp2_with (first | (with_reducible refine stop_load (t := 30) ?_) | (with_reducible refine stop_store (t := 30) ?_) | (with_reducible refine stop_load (t := 24) ?_) | (with_reducible refine stop_store (t := 24) ?_) | (with_reducible refine stop_load (t := 48) ?_) | (with_reducible refine stop_store (t := 48) ?_) | (with_reducible refine stop_load (t := 51) ?_) | (with_reducible refine stop_store (t := 51) ?_) | (with_reducible refine stop_build (t := 30) ?_) | (with_reducible refine stop_bs (t := 59) ?_) | (with_reducible refine stop_app ?_))
      refine (tall_any D rv2 vs2 wq P.out.tb).mono ?_
      rintro e wt ⟨vt, ts, rfl, hvr, hc2, x5⟩
      obtain ⟨adt, capt, rfl, hit, hct9⟩ := hvr.inn2
      replace P := Lib.hid (P.out.ext x5)
      have HTS := Lib.hid hvr
      have HC2 := Lib.hid hc2
      have HCT9 := Lib.hid hct9
      clear hvr hc2 x5 hit hct9
      go_wp2_with (first | (with_reducible refine stop_load (t := 30) ?_) | (with_reducible refine stop_store (t := 30) ?_) | (with_reducible refine stop_load (t := 24) ?_) | (with_reducible refine stop_store (t := 24) ?_) | (with_reducible refine stop_load (t := 48) ?_) | (with_reducible refine stop_store (t := 48) ?_) | (with_reducible refine stop_load (t := 51) ?_) | (with_reducible refine stop_store (t := 51) ?_) | (with_reducible refine stop_build (t := 30) ?_) | (with_reducible refine stop_bs (t := 59) ?_) | (with_reducible refine stop_app ?_))
      obtain ⟨ad8, cap8, e8, hin8, hc8⟩ := P.out.inn
      cases e8
      have CV := rvs_any adt _ capt _ ts ms2 HCT9.out hc8 wt HTS.out.rd.1 hin8 HTS.out.vis P.out.vis
      rw [decide_eq_true (HC2.out.trans P.out.ct)] at CV
      refine CV.mono ?_
      rintro e wu ⟨rfl, x9⟩
      replace P := Lib.hid (P.out.ext x9)
      clear CV x9 HTS HC2 HCT9 hin8 hc8
      go_wp2_with (first | (with_reducible refine stop_load (t := 30) ?_) | (with_reducible refine stop_store (t := 30) ?_) | (with_reducible refine stop_load (t := 24) ?_) | (with_reducible refine stop_store (t := 24) ?_) | (with_reducible refine stop_load (t := 48) ?_) | (with_reducible refine stop_store (t := 48) ?_) | (with_reducible refine stop_load (t := 51) ?_) | (with_reducible refine stop_store (t := 51) ?_) | (with_reducible refine stop_build (t := 30) ?_) | (with_reducible refine stop_bs (t := 59) ?_) | (with_reducible refine stop_app ?_))
      refine ⟨⟨_, rv2, k + 1, vs2, ms2, ⟨by omega, P⟩, rfl, rfl, rfl, rfl, rfl, rfl, rfl⟩, by simp [p12M, intOf]; omega⟩
   ·have HPF := Lib.hid hpf
    clear hpf
    have p0 : ¬ (p : Int) < 0 := by omega
    go_wp2_with (first | (with_reducible refine stop_load (t := 30) ?_) | (with_reducible refine stop_store (t := 30) ?_) | (with_reducible refine stop_load (t := 24) ?_) | (with_reducible refine stop_store (t := 24) ?_) | (with_reducible refine stop_load (t := 48) ?_) | (with_reducible refine stop_store (t := 48) ?_) | (with_reducible refine stop_load (t := 51) ?_) | (with_reducible refine stop_store (t := 51) ?_) | (with_reducible refine stop_build (t := 30) ?_) | (with_reducible refine stop_bs (t := 59) ?_) | (with_reducible refine stop_app ?_))
    (with_reducible refine ⟨?_⟩); (with_reducible refine at_any ?_ ?_); (focus go_simp); refine fun K0 hK => ld_v _ gv x rfl rfl GV.out (hK _ _ ?_)
    clear hK
    go_wp2_with (first | (with_reducible refine stop_load (t := 30) ?_) | (with_reducible refine stop_store (t := 30) ?_) | (with_reducible refine stop_load (t := 24) ?_) | (with_reducible refine stop_store (t := 24) ?_) | (with_reducible refine stop_load (t := 48) ?_) | (with_reducible refine stop_store (t := 48) ?_) | (with_reducible refine stop_load (t := 51) ?_) | (with_reducible refine stop_store (t := 51) ?_) | (with_reducible refine stop_build (t := 30) ?_) | (with_reducible refine stop_bs (t := 59) ?_) | (with_reducible refine stop_app ?_))
    refine (rright_any x wr (EX.out.vi P.out.ex)).mono ?_
    rintro e wg ⟨rfl, x2⟩
    replace P := Lib.hid (P.out.ext x2)
    replace GV := Lib.hid (GV.out.ext x2)
    replace EX := Lib.hid (EX.out.ext x2)
    clear x2 GA d0
    obtain ⟨br, hbr⟩ : ∃ b, b = x.ct.right := ⟨_, rfl⟩
    have HBR := Lib.hid hbr
    rw [← hbr]
    clear hbr
    cases br
    ·skip
     go_wp2_with (first | (with_reducible refine stop_load (t := 30) ?_) | (with_reducible refine stop_store (t := 30) ?_) | (with_reducible refine stop_load (t := 24) ?_) | (with_reducible refine stop_store (t := 24) ?_) | (with_reducible refine stop_load (t := 48) ?_) | (with_reducible refine stop_store (t := 48) ?_) | (with_reducible refine stop_load (t := 51) ?_) | (with_reducible refine stop_store (t := 51) ?_) | (with_reducible refine stop_build (t := 30) ?_) | (with_reducible refine stop_bs (t := 59) ?_) | (with_reducible refine stop_app ?_))
     (with_reducible refine ⟨?_⟩); (with_reducible refine at_any ?_ ?_); (focus go_simp); refine fun K0 hK => ld_v _ gv x rfl rfl GV.out (hK _ _ ?_)
     clear hK
     go_wp2_with (first | (with_reducible refine stop_load (t := 30) ?_) | (with_reducible refine stop_store (t := 30) ?_) | (with_reducible refine stop_load (t := 24) ?_) | (with_reducible refine stop_store (t := 24) ?_) | (with_reducible refine stop_load (t := 48) ?_) | (with_reducible refine stop_store (t := 48) ?_) | (with_reducible refine stop_load (t := 51) ?_) | (with_reducible refine stop_store (t := 51) ?_) | (with_reducible refine stop_build (t := 30) ?_) | (with_reducible refine stop_bs (t := 59) ?_) | (with_reducible refine stop_app ?_))
     refine (tput_any D rv vs x wg P.out.tb (EX.out.vi P.out.ex)).mono ?_
     rintro e wp hpp
     have h1 : e = .returned (.int .i64 1) ∧ Ex wg wp := by
      rcases hpp with ⟨_, h1, h2⟩ | ⟨h1, _⟩
      ·exact ⟨h1, h2⟩
      ·rw [← HBR.out] at h1; cases h1
     obtain ⟨rfl, x3⟩ := h1
     replace P := Lib.hid (P.out.ext x3)
     clear hpp x3
     go_wp2_with (first | (with_reducible refine stop_load (t := 30) ?_) | (with_reducible refine stop_store (t := 30) ?_) | (with_reducible refine stop_load (t := 24) ?_) | (with_reducible refine stop_store (t := 24) ?_) | (with_reducible refine stop_load (t := 48) ?_) | (with_reducible refine stop_store (t := 48) ?_) | (with_reducible refine stop_load (t := 51) ?_) | (with_reducible refine stop_store (t := 51) ?_) | (with_reducible refine stop_build (t := 30) ?_) | (with_reducible refine stop_bs (t := 59) ?_) | (with_reducible refine stop_app ?_))
     have CL := tlen_any D rv vs wp P.out.tb
     rw [P.out.len] at CL
     rw [← HN.out] at CL
     refine CL.mono ?_
     rintro e wl ⟨rfl, hwl⟩
     subst hwl
     clear CL
     go_wp2_with (first | (with_reducible refine stop_load (t := 30) ?_) | (with_reducible refine stop_store (t := 30) ?_) | (with_reducible refine stop_load (t := 24) ?_) | (with_reducible refine stop_store (t := 24) ?_) | (with_reducible refine stop_load (t := 48) ?_) | (with_reducible refine stop_store (t := 48) ?_) | (with_reducible refine stop_load (t := 51) ?_) | (with_reducible refine stop_store (t := 51) ?_) | (with_reducible refine stop_build (t := 30) ?_) | (with_reducible refine stop_bs (t := 59) ?_) | (with_reducible refine stop_app ?_))
     refine (tall_any D rv vs wp P.out.tb).mono ?_
     rintro e wt ⟨vt, ts, rfl, hvr, hc2, x5⟩
     obtain ⟨adt, capt, rfl, hit, hct9⟩ := hvr.inn2
     replace P := Lib.hid (P.out.ext x5)
     have HTS := Lib.hid hvr
     have HC2 := Lib.hid hc2
     have HCT9 := Lib.hid hct9
     clear hvr hc2 x5 hit hct9
     go_wp2_with (first | (with_reducible refine stop_load (t := 30) ?_) | (with_reducible refine stop_store (t := 30) ?_) | (with_reducible refine stop_load (t := 24) ?_) | (with_reducible refine stop_store (t := 24) ?_) | (with_reducible refine stop_load (t := 48) ?_) | (with_reducible refine stop_store (t := 48) ?_) | (with_reducible refine stop_load (t := 51) ?_) | (with_reducible refine stop_store (t := 51) ?_) | (with_reducible refine stop_build (t := 30) ?_) | (with_reducible refine stop_bs (t := 59) ?_) | (with_reducible refine stop_app ?_))
     obtain ⟨ad8, cap8, e8, hin8, hc8⟩ := P.out.inn
     rw [← HN.out] at e8
     cases e8
     have CV := rvs_any adt _ capt _ ts ms HCT9.out hc8 wt HTS.out.rd.1 hin8 HTS.out.vis P.out.vis
     rw [← HN.out] at CV
     rw [decide_eq_true (HC2.out.trans P.out.ct)] at CV
     refine CV.mono ?_
     rintro e wu ⟨rfl, x9⟩
     replace P := Lib.hid (P.out.ext x9)
     clear CV x9 HTS HC2 HCT9 hin8 hc8
     go_wp2_with (first | (with_reducible refine stop_load (t := 30) ?_) | (with_reducible refine stop_store (t := 30) ?_) | (with_reducible refine stop_load (t := 24) ?_) | (with_reducible refine stop_store (t := 24) ?_) | (with_reducible refine stop_load (t := 48) ?_) | (with_reducible refine stop_store (t := 48) ?_) | (with_reducible refine stop_load (t := 51) ?_) | (with_reducible refine stop_store (t := 51) ?_) | (with_reducible refine stop_build (t := 30) ?_) | (with_reducible refine stop_bs (t := 59) ?_) | (with_reducible refine stop_app ?_))
     refine ⟨⟨_, rv, k + 1, vs, ms, ⟨by omega, P⟩, rfl, rfl, rfl, rfl, rfl, rfl, rfl⟩, by simp [p12M, intOf]; omega⟩
    ·skip
     go_wp2_with (first | (with_reducible refine stop_load (t := 30) ?_) | (with_reducible refine stop_store (t := 30) ?_) | (with_reducible refine stop_load (t := 24) ?_) | (with_reducible refine stop_store (t := 24) ?_) | (with_reducible refine stop_load (t := 48) ?_) | (with_reducible refine stop_store (t := 48) ?_) | (with_reducible refine stop_load (t := 51) ?_) | (with_reducible refine stop_store (t := 51) ?_) | (with_reducible refine stop_build (t := 30) ?_) | (with_reducible refine stop_bs (t := 59) ?_) | (with_reducible refine stop_app ?_))
     (with_reducible refine ⟨?_⟩); (with_reducible refine at_any ?_ ?_); (focus go_simp); refine fun K0 hK => ld_v _ gv x rfl rfl GV.out (hK _ _ ?_)
     clear hK
     go_wp2_with (first | (with_reducible refine stop_load (t := 30) ?_) | (with_reducible refine stop_store (t := 30) ?_) | (with_reducible refine stop_load (t := 24) ?_) | (with_reducible refine stop_store (t := 24) ?_) | (with_reducible refine stop_load (t := 48) ?_) | (with_reducible refine stop_store (t := 48) ?_) | (with_reducible refine stop_load (t := 51) ?_) | (with_reducible refine stop_store (t := 51) ?_) | (with_reducible refine stop_build (t := 30) ?_) | (with_reducible refine stop_bs (t := 59) ?_) | (with_reducible refine stop_app ?_))
     refine (tput_any D rv vs x wg P.out.tb (EX.out.vi P.out.ex)).mono ?_
     rintro e wp hpp
     have h1 : ∃ p z, BI vs.length (idF vs) (idn x.id) p ∧ p < vs.length ∧ idF vs p = idn x.id ∧ e = .returned (.int .i64 0) ∧ z.ct = x.ct ∧ TB wp D rv (vs.set p z) ∧ Tc D rv.ownBlock wg wp := by
      rcases hpp with ⟨h1, _⟩ | ⟨_, p9, hb, ⟨z, h1, h2, h3, h5, h6, h7⟩ | ⟨h1, _⟩ | ⟨z, rv9, h1, _⟩⟩
      ·rw [← HBR.out] at h1; cases h1
      ·exact ⟨p9, z, hb, h1, h2, h3, h5, h6, h7⟩
      ·exact absurd ⟨p, by rw [P.out.len, ← HN.out]; exact hp, by rw [P.out.idF]; exact HPF.out⟩ h1
      ·exact absurd ⟨p, by rw [P.out.len, ← HN.out]; exact hp, by rw [P.out.idF]; exact HPF.out⟩ h1
     obtain ⟨p9, z, hb, hp9, hf9, rfl, hz, ht2, htc⟩ := h1
     have HCT := Lib.hid (ct_set P.out hb hp9 hf9 hz)
     have HT2 := Lib.hid ht2
     have HTC := Lib.hid htc
     obtain ⟨vs2, hvs2⟩ : ∃ l, l = vs.set p9 z := ⟨_, rfl⟩
     rw [← hvs2] at HCT HT2
     have GV2 : Hid (VB wp gv x) := Lib.hid (VB.tc GV.out htc P.out.tb HGR.out)
     clear hpp hb hp9 hf9 hz ht2 htc hvs2 GV
     go_wp2_with (first | (with_reducible refine stop_load (t := 30) ?_) | (with_reducible refine stop_store (t := 30) ?_) | (with_reducible refine stop_load (t := 24) ?_) | (with_reducible refine stop_store (t := 24) ?_) | (with_reducible refine stop_load (t := 48) ?_) | (with_reducible refine stop_store (t := 48) ?_) | (with_reducible refine stop_load (t := 51) ?_) | (with_reducible refine stop_store (t := 51) ?_) | (with_reducible refine stop_build (t := 30) ?_) | (with_reducible refine stop_bs (t := 59) ?_) | (with_reducible refine stop_app ?_))
     (with_reducible refine ⟨?_⟩); (with_reducible refine at_any ?_ ?_); (focus go_simp); refine fun K0 hK => ld_v _ gv x rfl rfl GV2.out (hK _ _ ?_)
     clear hK
     go_wp2_with (first | (with_reducible refine stop_load (t := 30) ?_) | (with_reducible refine stop_store (t := 30) ?_) | (with_reducible refine stop_load (t := 24) ?_) | (with_reducible refine stop_store (t := 24) ?_) | (with_reducible refine stop_load (t := 48) ?_) | (with_reducible refine stop_store (t := 48) ?_) | (with_reducible refine stop_load (t := 51) ?_) | (with_reducible refine stop_store (t := 51) ?_) | (with_reducible refine stop_build (t := 30) ?_) | (with_reducible refine stop_bs (t := 59) ?_) | (with_reducible refine stop_app ?_))
     obtain ⟨ad9, cap9, e9, hin9⟩ := P.out.inn_tc HTC.out
     rw [← HN.out] at e9
     cases e9
     have CP := placed_any _ _ ms (by rw [← HN.out]; exact hN4) x GV2.out.1 wp hin9
     rw [← HN.out] at CP
     refine CP.mono ?_
     rintro e wq ⟨vq, rfl, hrow, x4⟩
     clear CP hin9
     have P2 : Hid (PS w wq D rv (vs2) vq (lts (idn x.id) ms ++ [x] ++ gts (idn x.id) ms)) := Lib.hid (P.out.put HT2.out HTC.out EX.out hrow x4 HCT.out)
     obtain ⟨ms2, hms2⟩ : ∃ l, l = lts (idn x.id) ms ++ [x] ++ gts (idn x.id) ms := ⟨_, rfl⟩
     rw [← hms2] at P2
     clear P hms2 hrow x4 HT2 HTC HCT EX GV2
     have P := P2
     clear P2
     obtain ⟨adq, capq, rfl, _⟩ := P.out.inn
     go_wp2_with (first | (with_reducible refine stop_load (t := 30) ?_) | (with_reducible refine stop_store (t := 30) ?_) | (with_reducible refine stop_load (t := 24) ?_) | (with_reducible refine stop_store (t := 24) ?_) | (with_reducible refine stop_load (t := 48) ?_) | (with_reducible refine stop_store (t := 48) ?_) | (with_reducible refine stop_load (t := 51) ?_) | (with_reducible refine stop_store (t := 51) ?_) | (with_reducible refine stop_build (t := 30) ?_) | (with_reducible refine stop_bs (t := 59) ?_) | (with_reducible refine stop_app ?_))
     have CL := tlen_any D rv vs2 wq P.out.tb
     rw [P.out.len] at CL
     refine CL.mono ?_
     rintro e wl ⟨rfl, hwl⟩
     subst hwl
     clear CL
     go_wp2_with (first | (with_reducible refine stop_load (t := 30) ?_) | (with_reducible refine stop_store (t := 30) ?_) | (with_reducible refine stop_load (t := 24) ?_) | (with_reducible refine stop_store (t := 24) ?_) | (with_reducible refine stop_load (t := 48) ?_) | (with_reducible refine stop_store (t := 48) ?_) | (with_reducible refine stop_load (t := 51) ?_) | (with_reducible refine stop_store (t := 51) ?_) | (with_reducible refine stop_build (t := 30) ?_) | (with_reducible refine stop_bs (t := 59) ?_) | (with_reducible refine stop_app ?_))
     refine (tall_any D rv vs2 wq P.out.tb).mono ?_
     rintro e wt ⟨vt, ts, rfl, hvr, hc2, x5⟩
     obtain ⟨adt, capt, rfl, hit, hct9⟩ := hvr.inn2
     replace P := Lib.hid (P.out.ext x5)
     have HTS := Lib.hid hvr
     have HC2 := Lib.hid hc2
     have HCT9 := Lib.hid hct9
     clear hvr hc2 x5 hit hct9
     go_wp2_with (first | (with_reducible refine stop_load (t := 30) ?_) | (with_reducible refine stop_store (t := 30) ?_) | (with_reducible refine stop_load (t := 24) ?_) | (with_reducible refine stop_store (t := 24) ?_) | (with_reducible refine stop_load (t := 48) ?_) | (with_reducible refine stop_store (t := 48) ?_) | (with_reducible refine stop_load (t := 51) ?_) | (with_reducible refine stop_store (t := 51) ?_) | (with_reducible refine stop_build (t := 30) ?_) | (with_reducible refine stop_bs (t := 59) ?_) | (with_reducible refine stop_app ?_))
     obtain ⟨ad8, cap8, e8, hin8, hc8⟩ := P.out.inn
     cases e8
     have CV := rvs_any adt _ capt _ ts ms2 HCT9.out hc8 wt HTS.out.rd.1 hin8 HTS.out.vis P.out.vis
     rw [decide_eq_true (HC2.out.trans P.out.ct)] at CV
     refine CV.mono ?_
     rintro e wu ⟨rfl, x9⟩
     replace P := Lib.hid (P.out.ext x9)
     clear CV x9 HTS HC2 HCT9 hin8 hc8
     go_wp2_with (first | (with_reducible refine stop_load (t := 30) ?_) | (with_reducible refine stop_store (t := 30) ?_) | (with_reducible refine stop_load (t := 24) ?_) | (with_reducible refine stop_store (t := 24) ?_) | (with_reducible refine stop_load (t := 48) ?_) | (with_reducible refine stop_store (t := 48) ?_) | (with_reducible refine stop_load (t := 51) ?_) | (with_reducible refine stop_store (t := 51) ?_) | (with_reducible refine stop_build (t := 30) ?_) | (with_reducible refine stop_bs (t := 59) ?_) | (with_reducible refine stop_app ?_))
     refine ⟨⟨_, rv, k + 1, vs2, ms2, ⟨by omega, P⟩, rfl, rfl, rfl, rfl, rfl, rfl, rfl⟩, by simp [p12M, intOf]; omega⟩
end Go.Proofs.Ytedljddjmojeeaa
