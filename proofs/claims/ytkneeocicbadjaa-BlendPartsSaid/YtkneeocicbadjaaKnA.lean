/- walks: known of stage 2 -/
import Derived.Test.YtkneeocicbadjaaBlF
import Derived.Test.YtkneeocicbadjaaBlG
import Derived.Test.YtkneeocicbadjaaEqA
import Derived.Lib.SlBytesConst
namespace Go.Proofs.Ytkneeocicbadjaa
open Go.RowKit
theorem streamL_len (kl : List UInt8) (n : Int) (m : Nat) : (streamL kl n m).length = m := by
  unfold streamL; rw [List.length_take, strB_len]; omega
theorem one_pt (W : World) (x : UInt8) (fr : Nat × Nat) : (Pt.mk (some ⟨W.heap.size, 0, none⟩) 1 [x]).In (W.alloc (.cells #[.int .u8 (x.toNat : Int)] 5 fr)) (W.alloc (.cells #[.int .u8 (x.toNat : Int)] 5 fr)).heap.size := by
  refine ⟨Nat.le_refl _, (fun h => by cases h), fun _ => ⟨W.heap.size, 0, rfl, by simp, fun i hi => ?_⟩⟩
  obtain rfl : i = 0 := by simp at hi; omega
  have h := heap_alloc_new W (.cells #[.int .u8 (x.toNat : Int)] 5 fr)
  unfold World.cell?; rw [show (⟨W.heap.size, 0 + 0, none⟩ : Addr).block = W.heap.size from rfl, h]; rfl
theorem Bk.farCells {g b : Nat} {t : TypeId} {cs : Array Value} (hb : g ≠ b) : ∀ (vs : List Value) (o : Nat) {w : World}, Bk w g t cs → Bk (w.setCells b o vs) g t cs
  | [], _, _, h => h
  | v :: r, o, _, h => Bk.farCells hb r (o + 1) ((Below.heap_setCell _ _ _ _ hb).trans h)
theorem sum97 : decide (sumL [97] = zeroL) = false := by decide +kernel
set_option maxHeartbeats 8000000 in
set_option maxRecDepth 100000 in
theorem known2_any (w : World) :
    Calls Try.prog 28 #[] w fun e w' => e = .returned (.bool true) ∧ Below w.heap.size w w' := by
  have hcv := fun (w : World) (C : Array Value) (n c : Nat) => Lib.run_convert_bytes_const (P := Try.prog) w 22 5 C n c Try.underlying22 Try.underlying5
  have S1 := Lib.hid (fun (W : World) (x : UInt8) fr => sum_pt ⟨some ⟨W.heap.size, 0, none⟩, 1, [x]⟩ (W.alloc (.cells #[.int .u8 (x.toNat : Int)] 5 fr)) (one_pt W x fr) (by show 1 < 100000000000000; omega))
  obtain ⟨da, hda⟩ : ∃ ds, ds = Lib.byteCells (sumL [97]) := ⟨_, rfl⟩
  have hvala : digV (sumL [97]) = .agg da.toArray := by rw [hda]; rfl
  have hdla : da.length = 16 := by rw [hda]; rfl
  have HOa := Lib.hid (show da.toArray.all (·.oneCell') = true by rw [hda]; exact bytes_one _)
  have hi3a := Lib.hid (show (Try.prog.info? 24).map (·.size) = some da.toArray.size by rw [sm_dsize]; simp [hdla])
  obtain ⟨db, hdb⟩ : ∃ ds, ds = Lib.byteCells (sumL [98]) := ⟨_, rfl⟩
  have hvalb : digV (sumL [98]) = .agg db.toArray := by rw [hdb]; rfl
  have hdlb : db.length = 16 := by rw [hdb]; rfl
  have HOb := Lib.hid (show db.toArray.all (·.oneCell') = true by rw [hdb]; exact bytes_one _)
  have hi3b := Lib.hid (show (Try.prog.info? 24).map (·.size) = some db.toArray.size by rw [sm_dsize]; simp [hdlb])
  have HVA := Lib.hid hvala
  have HVB := Lib.hid hvalb
  have HDA := Lib.hid hda
  have HDB := Lib.hid hdb
  have HLA := Lib.hid hdla
  have HLB := Lib.hid hdlb
  clear hvala hvalb hda hdb hdla hdlb
  go_enter Try.func28, Try.ntmps28
  go_wp2_with fail
  refine (S1.out w 97 (1, 2)).mono ?_
  rintro e w1 ⟨rfl, b1⟩
  have bw1 : Below w.heap.size w w1 := ((Below.refl _ _).alloc (Nat.le_refl _) _).trans (b1.mono (by simp))
  have z1 := bw1.size
  clear b1
  go_wp2_with fail
  refine (S1.out w1 98 (1, 2)).mono ?_
  rintro e w2 ⟨rfl, b2⟩
  have bw2 : Below w.heap.size w w2 := (bw1.alloc z1 _).trans (b2.mono (by simp; omega))
  have z2 := bw2.size
  clear b2
  rw [HVA.out, HVB.out]
  have T1 := Lib.hid (show ((w2.alloc (.cells zero16 24)).alloc (.cells zero16 24)).there w2.heap.size 0 da.toArray.size by rw [show da.toArray.size = 16 by simp [HLA.out]]; exact (Bk.more (Bk.new rfl _ _) _).there 16 rfl)
  have T2 := Lib.hid (show (((w2.alloc (.cells zero16 24)).alloc (.cells zero16 24)).setCells w2.heap.size 0 da.toArray.toList).there (w2.heap.size + 1) 0 db.toArray.size by rw [show db.toArray.size = 16 by simp [HLB.out]]; exact World.there_setCells ((Bk.new (by simp) _ _ : Bk ((w2.alloc (.cells zero16 24)).alloc (.cells zero16 24)) (w2.heap.size + 1) 24 zero16).there 16 rfl) _ _ _)
  go_wp2_with (first | ((with_reducible refine sm_at_store ?_ ?_); (focus go_simp); (refine fun K hK => wp_store_mid 24 _ _ rfl w2.heap.size 0 da.toArray rfl rfl T1.out hi3a.out HOa.out (hK _ _ ?_))) | ((with_reducible refine sm_at_store ?_ ?_); (focus go_simp); (refine fun K hK => wp_store_mid 24 _ _ rfl (w2.heap.size + 1) 0 db.toArray rfl rfl T2.out hi3b.out HOb.out (hK _ _ ?_))))
  change Code.wp Try.prog _ _ _ ((((w2.alloc (.cells zero16 24)).alloc (.cells zero16 24)).setCells w2.heap.size 0 da.toArray.toList).setCells (w2.heap.size + 1) 0 db.toArray.toList)
  have k1 : Bk ((w2.alloc (.cells zero16 24)).alloc (.cells zero16 24)) w2.heap.size 24 zero16 := Bk.more (Bk.new rfl _ _) _
  have k2 : Bk ((w2.alloc (.cells zero16 24)).alloc (.cells zero16 24)) (w2.heap.size + 1) 24 zero16 := Bk.new (by simp) _ _
  have sa : da.toArray.size = zero16.size := by simp [HLA.out]; rfl
  have sb : db.toArray.size = zero16.size := by simp [HLB.out]; rfl
  have k3 := rowAll k1 sa
  have k4 := Bk.farCells (cs := zero16) (b := w2.heap.size) (by omega) da.toArray.toList 0 k2
  have k5 := rowAll k4 sb
  have k6 := Bk.farCells (b := w2.heap.size + 1) (by omega) db.toArray.toList 0 k3
  have bw3 : Below w.heap.size w ((((w2.alloc (.cells zero16 24)).alloc (.cells zero16 24)).setCells w2.heap.size 0 da.toArray.toList).setCells (w2.heap.size + 1) 0 db.toArray.toList) :=
    sm_below_setCells _ _ _ (by omega) (sm_below_setCells _ _ _ z2 ((bw2.alloc z2 _).alloc (by simp; omega) _))
  clear k1 k2 k3 k4 T1 T2 sa sb
  generalize (((w2.alloc (.cells zero16 24)).alloc (.cells zero16 24)).setCells w2.heap.size 0 da.toArray.toList).setCells (w2.heap.size + 1) 0 db.toArray.toList = wr at k5 k6 bw3 ⊢
  obtain ⟨g1, hg1⟩ : ∃ g, g = w2.heap.size := ⟨_, rfl⟩
  rw [← hg1] at k5 k6 ⊢
  obtain ⟨g2, hg2⟩ : ∃ g, g = g1 + 1 := ⟨_, rfl⟩
  rw [← hg2] at k5 ⊢
  have gl1 := k6.lt
  have gl2 := k5.lt
  have RA := Lib.hid k6.range
  have RB := Lib.hid k5.range
  obtain ⟨A, hA⟩ : ∃ A, A = sumL [97] := ⟨_, rfl⟩
  obtain ⟨B, hB⟩ : ∃ B, B = sumL [98] := ⟨_, rfl⟩
  have hAl : A.length = 16 := by rw [hA]; rfl
  have hBl : B.length = 16 := by rw [hB]; rfl
  have HNE := Lib.hid (show decide (A = zeroL) = false by rw [hA]; exact sum97)
  have PB : Hid ((Pt.mk (some ⟨g2, 0, none⟩) 16 B).In wr wr.heap.size) := by
    have h := bk_pt (w := wr) (g := g2) (t := 24) (l := B) (by rw [hB, ← HDB.out]; exact k5)
    rw [hBl] at h
    exact Lib.hid h
  rw [← hA] at HVA
  rw [← hB] at HVB
  have hi5 : Hid ((Try.prog.info? 24).map (·.size) = some da.length) := Lib.hid (by rw [sm_dsize, HLA.out])
  have hi6 : Hid ((Try.prog.info? 24).map (·.size) = some db.length) := Lib.hid (by rw [sm_dsize, HLB.out])
  obtain ⟨dd, hd⟩ : ∃ d, Try.prog.underlying 24 = some d ∧ d.isRow = true := ⟨_, Try.underlying24, rfl⟩
  have HD := Lib.hid hd
  obtain ⟨X, hX⟩ : ∃ X, X = sumL (A ++ B) := ⟨_, rfl⟩
  have hXl : X.length = 16 := by rw [hX]; rfl
  have TWO := fun W => two_any A B hAl hBl W
  have KEY := fun (W : World) (h : (Pt.mk (some ⟨g2, 0, none⟩) 16 B).In W W.heap.size) => keyed_any A hAl ⟨some ⟨g2, 0, none⟩, 16, B⟩ W h (by show B.length ≤ _; omega)
  have hV : (Pt.mk (some ⟨g2, 0, none⟩) 16 B).V = .slice (some ⟨g2, 0, none⟩) 16 16 := by unfold Pt.V; simp only [hBl]
  rw [← hX] at TWO
  simp only [hV, ← hX] at KEY
  have TWO := Lib.hid TWO
  have KEY := Lib.hid KEY
  have STR := Lib.hid (show ∀ W, Calls Try.prog 26 #[digV A, .int .u64 5, .int .i64 20] W (PtPost (streamL A 5 20) W) from fun W => stream_any A hAl 5 (by omega) (by omega) 20 (by omega) W)
  clear hA hB hd hX hV k5 k6 hcv hg1 hg2 bw1 bw2 z1 z2 S1
  obtain ⟨T, hT⟩ : ∃ T : List As, T = [.is (digV A), .is (digV B), .is (digV X), .is (digV A), .is (.slice (some ⟨g2, 0, none⟩) 16 16), .is (digV X), .is (.bool true), .is (.bool true), .is (digV A), .is (digV zeroL), .is (.bool true), .is (.bool true), .is (.bool true), .is (digV A), .pt (streamL A 5 20), .is (.int .i64 20), .is (.bool true), .is (.bool true), .is (.bool true), .pt (numL 258), .is (.string ⟨#[0, 0, 0, 0, 0, 0, 1, 2]⟩), .is (.bool true), .is (.bool true), .is (.bool true), .pt [], .is (.bool true), .is (.bool true), .is (.bool true), .pt [1], .pt [2], .is (.bool false), .is (.bool true), .is (.bool true)] := ⟨_, rfl⟩
  refine wp_region_flow 33 (tabPhi T) (by kernel_rfl) rfl (by kernel_rfl) (by kernel_rfl) (by kernel_rfl) (tabPhi_stable T) (fitB_spec (by kernel_rfl)) ?_ ?_
  · intro i o hi ho
    have hi' : i = 0 ∨ i = 1 ∨ i = 2 ∨ i = 3 ∨ i = 4 ∨ i = 5 ∨ i = 6 ∨ i = 7 ∨ i = 8 ∨ i = 9 ∨ i = 10 ∨ i = 11 ∨ i = 12 ∨ i = 13 ∨ i = 14 ∨ i = 15 ∨ i = 16 ∨ i = 17 ∨ i = 18 ∨ i = 19 ∨ i = 20 ∨ i = 21 ∨ i = 22 ∨ i = 23 ∨ i = 24 ∨ i = 25 ∨ i = 26 ∨ i = 27 ∨ i = 28 ∨ i = 29 ∨ i = 30 ∨ i = 31 ∨ i = 32 := by omega
    rcases hi' with rfl | rfl | rfl | rfl | rfl | rfl | rfl | rfl | rfl | rfl | rfl | rfl | rfl | rfl | rfl | rfl | rfl | rfl | rfl | rfl | rfl | rfl | rfl | rfl | rfl | rfl | rfl | rfl | rfl | rfl | rfl | rfl | rfl
    all_goals (simp only [List.getElem?_toArray, List.getElem?_cons_zero, List.getElem?_cons_succ, Option.some.injEq] at ho; subst ho; intro a w2 hx hsz hdep hout)
    · rw [if_pos (by rfl)]
      intro K hK
      have f := hout 1 (outB_spec (by kernel_rfl))
      exact wp_load_mid 24 _ rfl g1 0 f da dd (fun x v hv => (hx.cell (p := ⟨g1, 0 + x, none⟩) (by show g1 < wr.heap.size; omega)).trans (RA.out x v hv)) HD.out.1 HD.out.2 hi5.out (hK _ _ (Ex.refl _) (by rw [hT]; exact HVA.out.symm))
    · rw [if_pos (by rfl)]
      intro K hK
      have f := hout 2 (outB_spec (by kernel_rfl))
      exact wp_load_mid 24 _ rfl g2 0 f db dd (fun x v hv => (hx.cell (p := ⟨g2, 0 + x, none⟩) (by show g2 < wr.heap.size; omega)).trans (RB.out x v hv)) HD.out.1 HD.out.2 hi6.out (hK _ _ (Ex.refl _) (by rw [hT]; exact HVB.out.symm))
    · rw [if_pos (by rfl)]
      intro K hK
      obtain ⟨v, hv, kv⟩ := hdep ⟨0, .data⟩ (by simp) rfl _ rfl
      have qv := kv _ rfl
      rw [hT] at hv
      obtain rfl : v = digV A := hv
      obtain ⟨u, hu, ku⟩ := hdep ⟨1, .data⟩ (by simp) rfl _ rfl
      have qu := ku _ rfl
      rw [hT] at hu
      obtain rfl : u = digV B := hu
      go_simp
      refine (TWO.out w2).mono ?_
      rintro e w3 ⟨rfl, hex⟩
      exact hK _ _ hex (by rw [hT]; rfl)
    · rw [if_pos (by rfl)]
      intro K hK
      have f := hout 1 (outB_spec (by kernel_rfl))
      exact wp_load_mid 24 _ rfl g1 0 f da dd (fun x v hv => (hx.cell (p := ⟨g1, 0 + x, none⟩) (by show g1 < wr.heap.size; omega)).trans (RA.out x v hv)) HD.out.1 HD.out.2 hi5.out (hK _ _ (Ex.refl _) (by rw [hT]; exact HVA.out.symm))
    · rw [if_pos (by rfl)]
      intro K hK
      have f := hout 2 (outB_spec (by kernel_rfl))
      clear hsz hdep hout
      go_simp
      exact hK _ _ (Ex.refl _) (by rw [hT]; rfl)
    · rw [if_pos (by rfl)]
      intro K hK
      obtain ⟨v, hv, kv⟩ := hdep ⟨3, .data⟩ (by simp) rfl _ rfl
      have qv := kv _ rfl
      rw [hT] at hv
      obtain rfl : v = digV A := hv
      obtain ⟨u, hu, ku⟩ := hdep ⟨4, .data⟩ (by simp) rfl _ rfl
      have qu := ku _ rfl
      rw [hT] at hu
      obtain rfl : u = .slice (some ⟨g2, 0, none⟩) 16 16 := hu
      go_simp
      refine (KEY.out w2 (PB.out.ext (Ex.trans (show Ex wr wr.drew from (Below.refl _ _).drew) hx))).mono ?_
      rintro e w3 ⟨rfl, hex⟩
      exact hK _ _ hex (by rw [hT]; rfl)
    · rw [if_pos (by rfl)]
      intro K hK
      obtain ⟨v, hv, kv⟩ := hdep ⟨2, .data⟩ (by simp) rfl _ rfl
      have qv := kv _ rfl
      rw [hT] at hv
      obtain rfl : v = digV X := hv
      obtain ⟨u, hu, ku⟩ := hdep ⟨5, .data⟩ (by simp) rfl _ rfl
      have qu := ku _ rfl
      rw [hT] at hu
      obtain rfl : u = digV X := hu
      exact wp_eql_dig _ _ _ rfl X X hXl hXl qv qu (hK _ _ (Ex.refl _) (by rw [hT, decide_eq_true rfl]; rfl))
    · rw [if_pos (by rfl)]
      intro K hK
      obtain ⟨v, hv, kv⟩ := hdep ⟨6, .data⟩ (by simp) rfl _ rfl
      have qv := kv _ rfl
      rw [hT] at hv
      obtain rfl : v = .bool true := hv
      exact wp_mv _ rfl (hK _ _ (Ex.refl _) (by rw [hT]; exact qv))
    · obtain ⟨vg, hvg, kg⟩ := hdep ⟨7, .guard⟩ (by simp) rfl _ rfl
      rw [hT] at hvg
      obtain rfl : vg = .bool true := hvg
      rw [if_pos (wanted_of rfl rfl rfl (kg _ rfl))]
      intro K hK
      have f := hout 1 (outB_spec (by kernel_rfl))
      exact wp_load_mid 24 _ rfl g1 0 f da dd (fun x v hv => (hx.cell (p := ⟨g1, 0 + x, none⟩) (by show g1 < wr.heap.size; omega)).trans (RA.out x v hv)) HD.out.1 HD.out.2 hi5.out (hK _ _ (Ex.refl _) (by rw [hT]; exact HVA.out.symm))
    · obtain ⟨vg, hvg, kg⟩ := hdep ⟨7, .guard⟩ (by simp) rfl _ rfl
      rw [hT] at hvg
      obtain rfl : vg = .bool true := hvg
      rw [if_pos (wanted_of rfl rfl rfl (kg _ rfl))]
      intro K hK
      clear hsz hdep hout
      go_simp
      exact hK _ _ (Ex.refl _) (by rw [hT]; rfl)
    · obtain ⟨vg, hvg, kg⟩ := hdep ⟨7, .guard⟩ (by simp) rfl _ rfl
      rw [hT] at hvg
      obtain rfl : vg = .bool true := hvg
      rw [if_pos (wanted_of rfl rfl rfl (kg _ rfl))]
      intro K hK
      obtain ⟨v, hv, kv⟩ := hdep ⟨8, .data⟩ (by simp) rfl _ rfl
      have qv := kv _ rfl
      rw [hT] at hv
      obtain rfl : v = digV A := hv
      obtain ⟨u, hu, ku⟩ := hdep ⟨9, .data⟩ (by simp) rfl _ rfl
      have qu := ku _ rfl
      rw [hT] at hu
      obtain rfl : u = digV zeroL := hu
      exact wp_neq_dig _ _ _ rfl A zeroL hAl rfl qv qu (hK _ _ (Ex.refl _) (by rw [hT, HNE.out]; rfl))
    · rw [if_pos (by rfl)]
      intro K hK
      obtain ⟨v, hv, kv⟩ := hdep ⟨7, .data⟩ (by simp) rfl _ rfl
      have qv := kv _ rfl
      rw [hT] at hv
      obtain rfl : v = .bool true := hv
      obtain ⟨u, hu, ku⟩ := hdep ⟨10, .data⟩ (by simp) rfl _ rfl
      have qu := ku _ rfl
      rw [hT] at hu
      obtain rfl : u = .bool true := hu
      clear hsz hdep hout
      go_simp
      exact hK _ _ (Ex.refl _) (by rw [hT]; rfl)
    · rw [if_pos (by rfl)]
      intro K hK
      obtain ⟨v, hv, kv⟩ := hdep ⟨11, .data⟩ (by simp) rfl _ rfl
      have qv := kv _ rfl
      rw [hT] at hv
      obtain rfl : v = .bool true := hv
      exact wp_mv _ rfl (hK _ _ (Ex.refl _) (by rw [hT]; exact qv))
    · obtain ⟨vg, hvg, kg⟩ := hdep ⟨12, .guard⟩ (by simp) rfl _ rfl
      rw [hT] at hvg
      obtain rfl : vg = .bool true := hvg
      rw [if_pos (wanted_of rfl rfl rfl (kg _ rfl))]
      intro K hK
      have f := hout 1 (outB_spec (by kernel_rfl))
      exact wp_load_mid 24 _ rfl g1 0 f da dd (fun x v hv => (hx.cell (p := ⟨g1, 0 + x, none⟩) (by show g1 < wr.heap.size; omega)).trans (RA.out x v hv)) HD.out.1 HD.out.2 hi5.out (hK _ _ (Ex.refl _) (by rw [hT]; exact HVA.out.symm))
    · obtain ⟨vg, hvg, kg⟩ := hdep ⟨12, .guard⟩ (by simp) rfl _ rfl
      rw [hT] at hvg
      obtain rfl : vg = .bool true := hvg
      rw [if_pos (wanted_of rfl rfl rfl (kg _ rfl))]
      intro K hK
      obtain ⟨v, hv, kv⟩ := hdep ⟨13, .data⟩ (by simp) rfl _ rfl
      have qv := kv _ rfl
      rw [hT] at hv
      obtain rfl : v = digV A := hv
      go_simp
      refine (STR.out w2).mono ?_
      rintro e w3 ⟨p, rfl, hl, hin, hex⟩
      exact hK _ _ hex (by rw [hT]; exact ⟨p, rfl, hl, hin⟩)
    · obtain ⟨vg, hvg, kg⟩ := hdep ⟨12, .guard⟩ (by simp) rfl _ rfl
      rw [hT] at hvg
      obtain rfl : vg = .bool true := hvg
      rw [if_pos (wanted_of rfl rfl rfl (kg _ rfl))]
      intro K hK
      obtain ⟨v, hv, kv⟩ := hdep ⟨14, .data⟩ (by simp) rfl _ rfl
      have qv := kv _ rfl
      rw [hT] at hv
      obtain ⟨p, rfl, lp, ip⟩ := hv
      have hn : p.l.length = 20 := by rw [lp]; exact streamL_len A 5 20
      have q : a.tmps[23]?.getD undef = .slice p.ad 20 p.cap := by rw [← Array.getD_eq_getD_getElem?, qv]; unfold Pt.V; rw [hn]
      clear hsz hdep hout qv kv lp hn kg
      go_simp
      exact hK _ _ (Ex.refl _) (by rw [hT]; rfl)
    · obtain ⟨vg, hvg, kg⟩ := hdep ⟨12, .guard⟩ (by simp) rfl _ rfl
      rw [hT] at hvg
      obtain rfl : vg = .bool true := hvg
      rw [if_pos (wanted_of rfl rfl rfl (kg _ rfl))]
      intro K hK
      obtain ⟨v, hv, kv⟩ := hdep ⟨15, .data⟩ (by simp) rfl _ rfl
      have qv := kv _ rfl
      rw [hT] at hv
      obtain rfl : v = .int .i64 20 := hv
      clear hsz hdep hout kg kv
      go_simp
      exact hK _ _ (Ex.refl _) (by rw [hT]; rfl)
    · rw [if_pos (by rfl)]
      intro K hK
      obtain ⟨v, hv, kv⟩ := hdep ⟨12, .data⟩ (by simp) rfl _ rfl
      have qv := kv _ rfl
      rw [hT] at hv
      obtain rfl : v = .bool true := hv
      obtain ⟨u, hu, ku⟩ := hdep ⟨16, .data⟩ (by simp) rfl _ rfl
      have qu := ku _ rfl
      rw [hT] at hu
      obtain rfl : u = .bool true := hu
      clear hsz hdep hout
      go_simp
      exact hK _ _ (Ex.refl _) (by rw [hT]; rfl)
    · rw [if_pos (by rfl)]
      intro K hK
      obtain ⟨v, hv, kv⟩ := hdep ⟨17, .data⟩ (by simp) rfl _ rfl
      have qv := kv _ rfl
      rw [hT] at hv
      obtain rfl : v = .bool true := hv
      exact wp_mv _ rfl (hK _ _ (Ex.refl _) (by rw [hT]; exact qv))
    · obtain ⟨vg, hvg, kg⟩ := hdep ⟨18, .guard⟩ (by simp) rfl _ rfl
      rw [hT] at hvg
      obtain rfl : vg = .bool true := hvg
      rw [if_pos (wanted_of rfl rfl rfl (kg _ rfl))]
      intro K hK
      clear hsz hdep hout kg
      go_simp
      refine (numberP 258 (by omega) (by omega) w2).mono ?_
      rintro e w3 ⟨p, rfl, hl, hin, hex⟩
      exact hK _ _ hex (by rw [hT]; exact ⟨p, rfl, hl, hin⟩)
    · obtain ⟨vg, hvg, kg⟩ := hdep ⟨18, .guard⟩ (by simp) rfl _ rfl
      rw [hT] at hvg
      obtain rfl : vg = .bool true := hvg
      rw [if_pos (wanted_of rfl rfl rfl (kg _ rfl))]
      intro K hK
      obtain ⟨v, hv, kv⟩ := hdep ⟨19, .data⟩ (by simp) rfl _ rfl
      have qv := kv _ rfl
      rw [hT] at hv
      obtain ⟨p, rfl, lp, ip⟩ := hv
      have cv := pt_conv p w2 ip
      rw [lp, show strL (numL 258) = ⟨#[0, 0, 0, 0, 0, 0, 1, 2]⟩ from by decide] at cv
      have q : a.tmps[28]?.getD undef = .slice p.ad (numL 258).length p.cap := by rw [← Array.getD_eq_getD_getElem?, qv]; unfold Pt.V; rw [lp]
      generalize (numL 258).length = nn at cv q
      clear hsz hdep hout qv kv lp kg
      go_simp
      exact hK _ _ (Ex.refl _) (by rw [hT]; rfl)
    · obtain ⟨vg, hvg, kg⟩ := hdep ⟨18, .guard⟩ (by simp) rfl _ rfl
      rw [hT] at hvg
      obtain rfl : vg = .bool true := hvg
      rw [if_pos (wanted_of rfl rfl rfl (kg _ rfl))]
      intro K hK
      obtain ⟨v, hv, kv⟩ := hdep ⟨20, .data⟩ (by simp) rfl _ rfl
      have qv := kv _ rfl
      rw [hT] at hv
      obtain rfl : v = .string ⟨#[0, 0, 0, 0, 0, 0, 1, 2]⟩ := hv
      clear hsz hdep hout kg kv
      go_simp
      exact hK _ _ (Ex.refl _) (by rw [hT]; rfl)
    · rw [if_pos (by rfl)]
      intro K hK
      obtain ⟨v, hv, kv⟩ := hdep ⟨18, .data⟩ (by simp) rfl _ rfl
      have qv := kv _ rfl
      rw [hT] at hv
      obtain rfl : v = .bool true := hv
      obtain ⟨u, hu, ku⟩ := hdep ⟨21, .data⟩ (by simp) rfl _ rfl
      have qu := ku _ rfl
      rw [hT] at hu
      obtain rfl : u = .bool true := hu
      clear hsz hdep hout
      go_simp
      exact hK _ _ (Ex.refl _) (by rw [hT]; rfl)
    · rw [if_pos (by rfl)]
      intro K hK
      obtain ⟨v, hv, kv⟩ := hdep ⟨22, .data⟩ (by simp) rfl _ rfl
      have qv := kv _ rfl
      rw [hT] at hv
      obtain rfl : v = .bool true := hv
      exact wp_mv _ rfl (hK _ _ (Ex.refl _) (by rw [hT]; exact qv))
    · obtain ⟨vg, hvg, kg⟩ := hdep ⟨23, .guard⟩ (by simp) rfl _ rfl
      rw [hT] at hvg
      obtain rfl : vg = .bool true := hvg
      rw [if_pos (wanted_of rfl rfl rfl (kg _ rfl))]
      intro K hK
      clear hsz hdep hout kg
      go_simp
      have hex : Ex w2 (w2.alloc (.cells #[] 5)) := (Below.refl _ _).alloc (Nat.le_refl _) _
      exact hK _ _ hex (by rw [hT]; exact ⟨⟨some ⟨w2.heap.size, 0, none⟩, 0, []⟩, rfl, rfl, bk_pt (t := 5) (l := []) (Bk.new (w := w2) rfl 5 (Lib.byteCells []).toArray)⟩)
    · obtain ⟨vg, hvg, kg⟩ := hdep ⟨23, .guard⟩ (by simp) rfl _ rfl
      rw [hT] at hvg
      obtain rfl : vg = .bool true := hvg
      rw [if_pos (wanted_of rfl rfl rfl (kg _ rfl))]
      intro K hK
      obtain ⟨v, hv, kv⟩ := hdep ⟨24, .data⟩ (by simp) rfl _ rfl
      have qv := kv _ rfl
      rw [hT] at hv
      obtain ⟨p, rfl, lp, ip⟩ := hv
      have P0 : (Pt.mk none 0 []).In w2 w2.heap.size := ⟨Nat.le_refl _, fun _ => rfl, fun h => absurd h (Nat.lt_irrefl 0)⟩
      have C := same_any ⟨none, 0, []⟩ p w2 P0 ip
      rw [lp] at C
      have C := Lib.hid C
      go_simp
      refine C.out.mono ?_
      rintro e w3 ⟨rfl, rfl⟩
      exact hK _ _ (Ex.refl _) (by rw [hT]; rfl)
    · rw [if_pos (by rfl)]
      intro K hK
      obtain ⟨v, hv, kv⟩ := hdep ⟨23, .data⟩ (by simp) rfl _ rfl
      have qv := kv _ rfl
      rw [hT] at hv
      obtain rfl : v = .bool true := hv
      obtain ⟨u, hu, ku⟩ := hdep ⟨25, .data⟩ (by simp) rfl _ rfl
      have qu := ku _ rfl
      rw [hT] at hu
      obtain rfl : u = .bool true := hu
      clear hsz hdep hout
      go_simp
      exact hK _ _ (Ex.refl _) (by rw [hT]; rfl)
    · rw [if_pos (by rfl)]
      intro K hK
      obtain ⟨v, hv, kv⟩ := hdep ⟨26, .data⟩ (by simp) rfl _ rfl
      have qv := kv _ rfl
      rw [hT] at hv
      obtain rfl : v = .bool true := hv
      exact wp_mv _ rfl (hK _ _ (Ex.refl _) (by rw [hT]; exact qv))
    · obtain ⟨vg, hvg, kg⟩ := hdep ⟨27, .guard⟩ (by simp) rfl _ rfl
      rw [hT] at hvg
      obtain rfl : vg = .bool true := hvg
      rw [if_pos (wanted_of rfl rfl rfl (kg _ rfl))]
      intro K hK
      clear hsz hdep hout kg
      go_simp
      have hex : Ex w2 (w2.alloc (.cells #[.int .u8 1] 5)) := (Below.refl _ _).alloc (Nat.le_refl _) _
      exact hK _ _ hex (by rw [hT]; exact ⟨⟨some ⟨w2.heap.size, 0, none⟩, 1, [1]⟩, rfl, rfl, bk_pt (t := 5) (l := [1]) (Bk.new (w := w2) rfl 5 (Lib.byteCells [1]).toArray)⟩)
    · obtain ⟨vg, hvg, kg⟩ := hdep ⟨27, .guard⟩ (by simp) rfl _ rfl
      rw [hT] at hvg
      obtain rfl : vg = .bool true := hvg
      rw [if_pos (wanted_of rfl rfl rfl (kg _ rfl))]
      intro K hK
      clear hsz hdep hout kg
      go_simp
      have hex : Ex w2 (w2.alloc (.cells #[.int .u8 2] 5)) := (Below.refl _ _).alloc (Nat.le_refl _) _
      exact hK _ _ hex (by rw [hT]; exact ⟨⟨some ⟨w2.heap.size, 0, none⟩, 1, [2]⟩, rfl, rfl, bk_pt (t := 5) (l := [2]) (Bk.new (w := w2) rfl 5 (Lib.byteCells [2]).toArray)⟩)
    · obtain ⟨vg, hvg, kg⟩ := hdep ⟨27, .guard⟩ (by simp) rfl _ rfl
      rw [hT] at hvg
      obtain rfl : vg = .bool true := hvg
      rw [if_pos (wanted_of rfl rfl rfl (kg _ rfl))]
      intro K hK
      obtain ⟨v, hv, kv⟩ := hdep ⟨28, .data⟩ (by simp) rfl _ rfl
      have qv := kv _ rfl
      rw [hT] at hv
      obtain ⟨p, rfl, lp, ip⟩ := hv
      obtain ⟨u, hu, ku⟩ := hdep ⟨29, .data⟩ (by simp) rfl _ rfl
      have qu := ku _ rfl
      rw [hT] at hu
      obtain ⟨q, rfl, lq, iq⟩ := hu
      have C := same_any p q w2 ip iq
      rw [lp, lq] at C
      have C := Lib.hid C
      go_simp
      refine C.out.mono ?_
      rintro e w3 ⟨rfl, rfl⟩
      exact hK _ _ (Ex.refl _) (by rw [hT]; rfl)
    · obtain ⟨vg, hvg, kg⟩ := hdep ⟨27, .guard⟩ (by simp) rfl _ rfl
      rw [hT] at hvg
      obtain rfl : vg = .bool true := hvg
      rw [if_pos (wanted_of rfl rfl rfl (kg _ rfl))]
      intro K hK
      obtain ⟨v, hv, kv⟩ := hdep ⟨30, .data⟩ (by simp) rfl _ rfl
      have qv := kv _ rfl
      rw [hT] at hv
      obtain rfl : v = .bool false := hv
      clear hsz hdep hout kg kv
      go_simp
      exact hK _ _ (Ex.refl _) (by rw [hT]; rfl)
    · rw [if_pos (by rfl)]
      intro K hK
      obtain ⟨v, hv, kv⟩ := hdep ⟨27, .data⟩ (by simp) rfl _ rfl
      have qv := kv _ rfl
      rw [hT] at hv
      obtain rfl : v = .bool true := hv
      obtain ⟨u, hu, ku⟩ := hdep ⟨31, .data⟩ (by simp) rfl _ rfl
      have qu := ku _ rfl
      rw [hT] at hu
      obtain rfl : u = .bool true := hu
      clear hsz hdep hout
      go_simp
      exact hK _ _ (Ex.refl _) (by rw [hT]; rfl)
  · intro a w2 hx hdef hsz hdone hout
    obtain ⟨v, hv, kv⟩ := hdone 32 _ (by omega) rfl
    have qv := kv _ rfl
    rw [hT] at hv
    obtain rfl : v = .bool true := hv
    clear hdone kv hT
    have hA := arr_range a.tmps 42 hsz
    change a.tmps = #[a.tmps[0]?.getD undef, a.tmps[1]?.getD undef, a.tmps[2]?.getD undef, a.tmps[3]?.getD undef, a.tmps[4]?.getD undef, a.tmps[5]?.getD undef, a.tmps[6]?.getD undef, a.tmps[7]?.getD undef, a.tmps[8]?.getD undef, a.tmps[9]?.getD undef, a.tmps[10]?.getD undef, a.tmps[11]?.getD undef, a.tmps[12]?.getD undef, a.tmps[13]?.getD undef, a.tmps[14]?.getD undef, a.tmps[15]?.getD undef, a.tmps[16]?.getD undef, a.tmps[17]?.getD undef, a.tmps[18]?.getD undef, a.tmps[19]?.getD undef, a.tmps[20]?.getD undef, a.tmps[21]?.getD undef, a.tmps[22]?.getD undef, a.tmps[23]?.getD undef, a.tmps[24]?.getD undef, a.tmps[25]?.getD undef, a.tmps[26]?.getD undef, a.tmps[27]?.getD undef, a.tmps[28]?.getD undef, a.tmps[29]?.getD undef, a.tmps[30]?.getD undef, a.tmps[31]?.getD undef, a.tmps[32]?.getD undef, a.tmps[33]?.getD undef, a.tmps[34]?.getD undef, a.tmps[35]?.getD undef, a.tmps[36]?.getD undef, a.tmps[37]?.getD undef, a.tmps[38]?.getD undef, a.tmps[39]?.getD undef, a.tmps[40]?.getD undef, a.tmps[41]?.getD undef] at hA
    have e1 := hout 1 (fun i o _ h => outB_spec (by kernel_rfl) i o h)
    have e2 := hout 2 (fun i o _ h => outB_spec (by kernel_rfl) i o h)
    have e3 := hout 3 (fun i o _ h => outB_spec (by kernel_rfl) i o h)
    have e4 := hout 4 (fun i o _ h => outB_spec (by kernel_rfl) i o h)
    have e5 := hout 5 (fun i o _ h => outB_spec (by kernel_rfl) i o h)
    have e6 := hout 6 (fun i o _ h => outB_spec (by kernel_rfl) i o h)
    have e7 := hout 7 (fun i o _ h => outB_spec (by kernel_rfl) i o h)
    have e8 := hout 8 (fun i o _ h => outB_spec (by kernel_rfl) i o h)
    simp only [Array.getD_eq_getD_getElem?, List.getElem?_toArray, List.getElem?_cons_zero, List.getElem?_cons_succ, Option.getD_some] at e1 e2 e3 e4 e5 e6 e7 e8
    rw [e1, e2, e3, e4, e5, e6, e7, e8] at hA
    clear e1 e2 e3 e4 e5 e6 e7 e8 hout
    have hds2 : a.defers = [] := hdef
    have ea : a = ⟨a.tmps, a.defers⟩ := rfl
    have s41 : a.tmps[41]?.getD undef = .bool true := by simpa [Array.getD_eq_getD_getElem?] using qv
    rw [hA, hds2, s41] at ea
    clear hA hds2 s41 qv hdef
    generalize a.tmps[0]?.getD undef = y0 at ea
    generalize a.tmps[9]?.getD undef = y9 at ea
    generalize a.tmps[10]?.getD undef = y10 at ea
    generalize a.tmps[11]?.getD undef = y11 at ea
    generalize a.tmps[12]?.getD undef = y12 at ea
    generalize a.tmps[13]?.getD undef = y13 at ea
    generalize a.tmps[14]?.getD undef = y14 at ea
    generalize a.tmps[15]?.getD undef = y15 at ea
    generalize a.tmps[16]?.getD undef = y16 at ea
    generalize a.tmps[17]?.getD undef = y17 at ea
    generalize a.tmps[18]?.getD undef = y18 at ea
    generalize a.tmps[19]?.getD undef = y19 at ea
    generalize a.tmps[20]?.getD undef = y20 at ea
    generalize a.tmps[21]?.getD undef = y21 at ea
    generalize a.tmps[22]?.getD undef = y22 at ea
    generalize a.tmps[23]?.getD undef = y23 at ea
    generalize a.tmps[24]?.getD undef = y24 at ea
    generalize a.tmps[25]?.getD undef = y25 at ea
    generalize a.tmps[26]?.getD undef = y26 at ea
    generalize a.tmps[27]?.getD undef = y27 at ea
    generalize a.tmps[28]?.getD undef = y28 at ea
    generalize a.tmps[29]?.getD undef = y29 at ea
    generalize a.tmps[30]?.getD undef = y30 at ea
    generalize a.tmps[31]?.getD undef = y31 at ea
    generalize a.tmps[32]?.getD undef = y32 at ea
    generalize a.tmps[33]?.getD undef = y33 at ea
    generalize a.tmps[34]?.getD undef = y34 at ea
    generalize a.tmps[35]?.getD undef = y35 at ea
    generalize a.tmps[36]?.getD undef = y36 at ea
    generalize a.tmps[37]?.getD undef = y37 at ea
    generalize a.tmps[38]?.getD undef = y38 at ea
    generalize a.tmps[39]?.getD undef = y39 at ea
    generalize a.tmps[40]?.getD undef = y40 at ea
    clear hsz
    subst ea
    have bx : Below wr.heap.size wr w2 := Below.trans (Below.refl _ _).drew hx
    have bw4 := bw3.trans (bx.mono bw3.size)
    unfold wpOp
    simp only [List.getElem?_toArray, List.getElem?_cons_zero, List.getElem?_cons_succ]
    rw [if_pos (by rfl)]
    left
    go_simp
    go_wp2_with fail
    go_ret
    exact ⟨rfl, bw4⟩
end Go.Proofs.Ytkneeocicbadjaa
