/- endorse.Mark and the statements' own mark -/
import Derived.Test.YtgoiidpcdifojaaEa
import Derived.Test.YtgoiidpcdifojaaRoF
namespace Go.Proofs.Ytgoiidpcdifojaa
open Go.RowKit
open Sm (digV DB by8 sumL numL keyed_any rkeyed_any zero16 by8_int)
theorem wp_ld45g {o : Oper} {a : Act} {w : World} {K : Act → World → Prop} {Q : Exit → Act → World → Prop} (x : Operand) (g : Nat) (u v : Value) (ho : o.op = .load 45 x) (ha : a.eval x = .pointer (some ⟨g, 0, none⟩)) (h : Bk w g 45 #[u, v]) (hk : K (a.put o.dst (.agg #[u, v])) w) : o.wp Try.prog a w K Q := by
  obtain ⟨dd, hd⟩ : ∃ d, Try.prog.underlying 45 = some d ∧ d.isRow = true := ⟨_, Try.underlying45, rfl⟩
  exact wp_load_mid 45 x ho g 0 ha [u, v] dd (Bk.range (ds := [u, v]) h) hd.1 hd.2 (by rw [Try.size45]; rfl) hk
def markL (K : List UInt8) (v : Int) (l : List Int) : List UInt8 := sumL (K ++ (numL v ++ l.map by8))
theorem markL_len (K : List UInt8) (v : Int) (l : List Int) : (markL K v l).length = 16 := rfl
theorem num_own {w w' : World} {n : Int} {B : Nat} (h : Sm.Bk w' w.heap.size 5 (Sm.numC n)) (hB : B ≤ w.heap.size) : Sm.ownU w' B (.slice (some ⟨w.heap.size, 0, none⟩) 8 8) (numL n) := by
  rw [← Sm.numL_C] at h
  exact ⟨rfl, .inr ⟨w.heap.size, 8, _, rfl, hB, h, Nat.le_refl _, by unfold maxLen; decide, rfl, rfl⟩⟩
theorem map_take_succ (l : List Int) (k : Nat) (h : k < l.length) : (l.take (k + 1)).map by8 = (l.take k).map by8 ++ [by8 (l.getD k 0)] := by
  rw [List.take_succ_eq_append_getElem h]; simp only [List.map_append, List.map_cons, List.map_nil, List.getD, List.getElem?_eq_getElem h, Option.getD_some]
set_option maxHeartbeats 4000000 in
set_option maxRecDepth 100000 in
theorem rmark_any (K : List UInt8) (hK : K.length = 16) (v : Int) (hv0 : 0 ≤ v) (hv1 : v < 18446744073709551616) (p : Pt) (h8 : p.l.length ≤ 8) (w : World) (hp : p.In w w.heap.size) :
    Calls Try.prog 57 #[digV K, LV v p] w fun e w' => e = .returned (digV (markL K v p.l)) ∧ Below w.heap.size w w' := by
  have CK := Lib.hid (fun (q : Sm.Pt) (W : World) (h : q.In W W.heap.size) (hl : q.l = numL v ++ p.l.map by8) => (show Calls Try.prog 59 #[digV K, q.V] W fun e w' => e = .returned (digV (markL K v p.l)) ∧ Below W.heap.size W w' by
    unfold markL; rw [← hl]; exact rkeyed_any K hK q W h (by rw [hl]; simp [numL]; omega)))
  have HS := Lib.hid (markL_len K v p.l)
  obtain ⟨S, hS⟩ : ∃ S, S = markL K v p.l := ⟨_, rfl⟩
  rw [← hS] at CK HS ⊢
  have hpw := hp.read
  obtain ⟨ad, cap, l⟩ := p
  simp only at *
  obtain ⟨n, hn⟩ : ∃ n, n = l.length := ⟨_, rfl⟩
  have HN := Lib.hid hn
  obtain ⟨mv, hmv⟩ : ∃ mv : Value, mv = .slice ad n cap := ⟨_, rfl⟩
  have HMV := Lib.hid hmv
  rw [show (LV v ⟨ad, cap, l⟩) = .agg #[.int .u64 v, mv] by rw [hmv, hn]; rfl]
  rw [← hn] at h8 hpw
  obtain ⟨cs, hcs⟩ : ∃ cs, cs = (Lib.byteCells K).toArray := ⟨_, rfl⟩
  have d0 : Hid (DB (((w.alloc (.cells cs 59)).alloc (.cells #[.int .u64 v, mv] 45)).alloc (.cells zero16 59)) w.heap.size K) := Lib.hid ⟨hK, by rw [hcs]; exact ((Sm.Bk.new rfl _ _).more _).more _⟩
  have l0 : Hid (Bk (((w.alloc (.cells cs 59)).alloc (.cells #[.int .u64 v, mv] 45)).alloc (.cells zero16 59)) (w.heap.size + 1) 45 #[.int .u64 v, mv]) := Lib.hid ((Bk.new (by simp) _ _).more _)
  have z0 : Hid (Sm.Bk (((w.alloc (.cells cs 59)).alloc (.cells #[.int .u64 v, mv] 45)).alloc (.cells zero16 59)) (w.heap.size + 2) 59 zero16) := Lib.hid (Sm.Bk.new (by simp) _ _)
  have BW := Lib.hid (show Ex w (((w.alloc (.cells cs 59)).alloc (.cells #[.int .u64 v, mv] 45)).alloc (.cells zero16 59)) from (((Below.refl _ _).alloc (Nat.le_refl _) _).alloc (by simp) _).alloc (by simp; omega) _)
  rw [show (Calls Try.prog 57 #[digV K, .agg #[.int .u64 v, mv]] w) = (Calls Try.prog 57 #[.agg cs, .agg #[.int .u64 v, mv]] w) by rw [hcs]; rfl]
  have HR := Lib.hid (fun (W : World) (k : Ex w W) => ((hp.keep k).more k.size).read)
  have HV1 := Lib.hid hv1
  clear hS hcs hK hmv hp hpw hn hv1
  simp only at HR
  go_enter Try.func57, Try.ntmps57
  go_wp2_with (first | (with_reducible refine Sm.stop_load59 ?_) | (with_reducible refine Sm.stop_store59 ?_))
  have bw := BW.out
  generalize hw1 : ((w.alloc (.cells cs 59)).alloc (.cells #[.int .u64 v, mv] 45)).alloc (.cells _ 59) = w1
  have D1 : Hid (DB w1 w.heap.size K) := by rw [← hw1]; exact d0
  have L1 : Hid (Bk w1 (w.heap.size + 1) 45 #[.int .u64 v, mv]) := by rw [← hw1]; exact l0
  have Z1 : Hid (Sm.Bk w1 (w.heap.size + 2) 59 zero16) := by rw [← hw1]; exact z0
  have bw1 : Hid (Ex w w1) := by rw [← hw1]; exact Lib.hid bw
  obtain ⟨B, hB⟩ : ∃ B, B = w.heap.size := ⟨_, rfl⟩
  rw [← hB] at D1 L1 Z1 ⊢
  have HB := Lib.hid hB
  clear hw1 bw BW d0 z0 l0 hB
  have c0 : w1.cell? ⟨B + 1, 0, none⟩ = some (.int .u64 v) := L1.out.cell 0
  refine (Sm.rnumber_any v hv0 HV1.out w1).mono ?_
  rintro e w2 ⟨rfl, nb, x2⟩
  have D2 := Lib.hid (D1.out.ext x2)
  have L2 := Lib.hid (L1.out.ext x2)
  have Z2 := Lib.hid (Z1.out.ext x2)
  have bw2 := Lib.hid (Ex.trans bw1.out x2)
  have own2 := Lib.hid (num_own nb (show B + 3 ≤ w1.heap.size from Z1.out.lt))
  have sz2 := Lib.hid (show B + 3 ≤ w2.heap.size from Z2.out.lt)
  have ml : Hid (numL v ++ (l.take 0).map by8 = numL v) := Lib.hid (by simp)
  clear D1 L1 Z1 bw1 c0 nb x2
  go_wp2_with (first | (with_reducible refine Sm.stop_load59 ?_) | (with_reducible refine Sm.stop_store59 ?_))
  go_loopw [5, 6] (fun t i wr => ∃ (k : Nat), k ≤ n ∧ i = .int .i64 k ∧ Hid (DB wr B K) ∧ Hid (Bk wr (B + 1) 45 #[.int .u64 v, mv]) ∧ Hid (Sm.Bk wr (B + 2) 59 zero16) ∧ Hid (Sm.ownU wr (B + 3) t (numL v ++ (l.take k).map by8)) ∧ Hid (B + 3 ≤ wr.heap.size) ∧ Hid (Ex w wr)) (fun _ i _ => n - (intOf i).toNat)
  case atStart => exact ⟨0, by omega, rfl, D2, L2, Z2, by rw [ml.out]; exact own2, sz2, bw2⟩
  case round =>
    clear D2 L2 Z2 own2 sz2 bw2 ml
    obtain ⟨k, hk, rfl, D2, L2, Z2, own2, sz2, bw2⟩ := hrel
    have c1 : wr.cell? ⟨B + 1, 1, none⟩ = some mv := L2.out.cell 1
    rw [HMV.out] at c1
    by_cases hlt : k < n
    · obtain ⟨a, o, rfl, ha, hc⟩ := HR.out wr bw2.out (by rw [← HN.out]; omega)
      rw [← HN.out] at hc
      have cx := hc k hlt
      have q0 : (0 : Int) ≤ (k : Int) := by omega
      have q1 : (k : Int) < (n : Int) := by omega
      have MS := Lib.hid (map_take_succ l k (by rw [← HN.out]; exact hlt))
      obtain ⟨x, hx⟩ : ∃ x, x = l.getD k 0 := ⟨_, rfl⟩
      rw [← hx] at cx MS
      obtain ⟨L, hL⟩ : ∃ L, L = numL v ++ (l.take k).map by8 := ⟨_, rfl⟩
      have ll : L.length ≤ 100 := by rw [hL]; simp [numL]; omega
      rw [← hL] at own2
      have HL := Lib.hid hL
      have xa : Ex wr (wr.alloc (.cells #[.int .u8 (x % 256)] 5)) := (Below.refl _ _).alloc (Nat.le_refl _) _
      have OW := Lib.hid (Sm.own_under own2.out xa)
      have LA := Lib.hid (L2.out.ext xa)
      have DA := Lib.hid (D2.out.ext xa)
      have ZA := Lib.hid (Z2.out.ext xa)
      have NEW := Lib.hid ((Sm.Bk.new (w := wr) rfl 5 #[.int .u8 (x % 256)]).cell 0)
      have SZA := Lib.hid (Nat.le_trans sz2.out xa.size)
      have XA := Lib.hid (Ex.trans bw2.out xa)
      have B8 := Lib.hid (Sm.by8_cells x)
      clear hc hx hL ha xa own2 L2 D2 Z2 sz2 bw2
      go_wp2_with (at_builtin; refine Sm.sm_append rfl (.tmp 17) (.tmp 24) rfl (B + 3) _ L.length (Lib.byteCells L) rfl OW.out (some ⟨wr.heap.size, 0, none⟩) 1 1 [by8 x] rfl ?_ rfl ?_ ?_ ?_ ?_; (focus (exact fun h => by cases h)); (focus (exact fun _ => ⟨_, rfl, fun j u hu => by
          rw [B8.out] at hu
          match j, hu with
          | 0, hu => rw [← hu]; exact NEW.out
          | j + 1, hu => simp at hu⟩)); (focus omega); (focus (exact SZA.out)); intro v3 w3 hown3 hg3; have HO3 := Lib.hid hown3; have HG3 := Lib.hid hg3; clear hown3 hg3)
      have bx3 : Below (B + 3) (wr.alloc (.cells #[.int .u8 (x % 256)] 5)) w3 := (Below.refl _ _).grown HG3.out SZA.out (fun x hx => (World.ownsRow.lt OW.out x hx).1)
      have D3 := Lib.hid (DB.under DA.out bx3 (by omega))
      have L3 := Lib.hid (LA.out.under bx3 (by omega))
      have Z3 := Lib.hid (ZA.out.under bx3 (by omega))
      have own3 : Hid (Sm.ownU w3 (B + 3) v3 (numL v ++ (l.take (k + 1)).map by8)) := Lib.hid (by
        have h := HO3.out
        rw [← Sm.byteCells_app, HL.out, List.append_assoc, ← MS.out, ← HL.out] at h
        have e : (numL v ++ (l.take (k + 1)).map by8).length = L.length + 1 := by rw [MS.out, ← List.append_assoc, ← HL.out]; simp
        unfold Sm.ownU
        rw [e]; exact h)
      have sz3 : Hid (B + 3 ≤ w3.heap.size) := Lib.hid (Nat.le_trans SZA.out bx3.size)
      have bw3 : Hid (Ex w w3) := Lib.hid (Below.trans (show Below w.heap.size w _ from XA.out) (bx3.mono (by rw [← HB.out]; omega)))
      clear bx3 HO3 HG3 OW DA LA ZA NEW SZA XA B8
      go_roundw
      case rel => exact ⟨k + 1, by omega, by go_num, D3, L3, Z3, own3, sz3, bw3⟩
      case measure => simp [intOf]; omega
    · obtain rfl : k = n := by omega
      have TK := Lib.hid (show l.take k = l by rw [HN.out, List.take_length])
      rw [TK.out] at own2
      obtain ⟨q, rfl, hql, hqin, _⟩ := Sm.own_pt own2.out
      go_wp2_with (first | (with_reducible refine Sm.stop_load59 ?_) | (with_reducible refine Sm.stop_store59 ?_))
      (with_reducible refine ⟨?_⟩); (with_reducible refine Sm.at_any ?_ ?_); (focus go_simp); refine fun K0 hK => Sm.wp_ld _ B K rfl rfl D2.out (hK _ _ ?_)
      clear hK
      have CC := Lib.hid (CK.out q wr hqin hql)
      have Z3 := Lib.hid Z2.out
      clear CK
      go_wp2_with (first | (with_reducible refine Sm.stop_load59 ?_) | (with_reducible refine Sm.stop_store59 ?_))
      refine CC.out.mono ?_
      rintro e w3 ⟨rfl, x3⟩
      have Z3 := Lib.hid (Z2.out.ext x3)
      have bw3 : Ex w w3 := Ex.trans bw2.out x3
      clear CC x3
      go_wp2_with (first | (with_reducible refine Sm.stop_load59 ?_) | (with_reducible refine Sm.stop_store59 ?_))
      (with_reducible refine ⟨?_⟩); (with_reducible refine Sm.at_any ?_ ?_); (focus go_simp); refine fun K0 hK => Sm.wp_st _ _ (B + 2) S rfl rfl rfl HS.out Z3.out rfl (fun w4 hd ho => hK _ _ ?_)
      have bw4 := ho.below w.heap.size (by rw [← HB.out]; omega) w bw3
      clear hK ho
      go_wp2_with (first | (with_reducible refine Sm.stop_load59 ?_) | (with_reducible refine Sm.stop_store59 ?_))
      exact bodyPost_ret (Sm.res_dig rfl _ _ (B + 2) rfl S hd) rfl ⟨rfl, bw4⟩
set_option maxHeartbeats 4000000 in
set_option maxRecDepth 100000 in
theorem mark_go (K : List UInt8) (hK : K.length = 16) (v : Int) (hv0 : 0 ≤ v) (hv1 : v < 18446744073709551616) (p : Pt) (h8 : p.l.length ≤ 8) (w : World) (hp : p.In w w.heap.size) (hr : rightB v p.l = true) :
    Calls Try.prog 56 #[digV K, LV v p] w fun e w' => e = .returned (.tuple #[digV (markL K v p.l), .bool true]) ∧ Below w.heap.size w w' := by
  have CK := Lib.hid (fun (q : Sm.Pt) (W : World) (h : q.In W W.heap.size) (hl : q.l = numL v ++ p.l.map by8) => (show Calls Try.prog 58 #[digV K, q.V] W fun e w' => e = .returned (digV (markL K v p.l)) ∧ Below W.heap.size W w' by
    unfold markL; rw [← hl]; exact keyed_any K hK q W h (by rw [hl]; simp [numL]; omega)))
  have RR := Lib.hid (fun W (h : Ex w W) => (show Calls Try.prog 49 #[LV v p] W fun e w' => e = .returned (.bool true) ∧ Below W.heap.size W w' by rw [← hr]; exact right_any v p W ((hp.keep h).more h.size)))
  have HS := Lib.hid (markL_len K v p.l)
  obtain ⟨S, hS⟩ : ∃ S, S = markL K v p.l := ⟨_, rfl⟩
  rw [← hS] at CK HS ⊢
  have hpw := hp.read
  obtain ⟨ad, cap, l⟩ := p
  simp only at *
  obtain ⟨n, hn⟩ : ∃ n, n = l.length := ⟨_, rfl⟩
  have HN := Lib.hid hn
  obtain ⟨mv, hmv⟩ : ∃ mv : Value, mv = .slice ad n cap := ⟨_, rfl⟩
  have HMV := Lib.hid hmv
  rw [show (LV v ⟨ad, cap, l⟩) = .agg #[.int .u64 v, mv] by rw [hmv, hn]; rfl] at RR ⊢
  rw [← hn] at h8 hpw
  obtain ⟨cs, hcs⟩ : ∃ cs, cs = (Lib.byteCells K).toArray := ⟨_, rfl⟩
  have d0 : Hid (DB (((w.alloc (.cells cs 59)).alloc (.cells #[.int .u64 v, mv] 45)).alloc (.cells zero16 59)) w.heap.size K) := Lib.hid ⟨hK, by rw [hcs]; exact ((Sm.Bk.new rfl _ _).more _).more _⟩
  have l0 : Hid (Bk (((w.alloc (.cells cs 59)).alloc (.cells #[.int .u64 v, mv] 45)).alloc (.cells zero16 59)) (w.heap.size + 1) 45 #[.int .u64 v, mv]) := Lib.hid ((Bk.new (by simp) _ _).more _)
  have z0 : Hid (Sm.Bk (((w.alloc (.cells cs 59)).alloc (.cells #[.int .u64 v, mv] 45)).alloc (.cells zero16 59)) (w.heap.size + 2) 59 zero16) := Lib.hid (Sm.Bk.new (by simp) _ _)
  have BW := Lib.hid (show Ex w (((w.alloc (.cells cs 59)).alloc (.cells #[.int .u64 v, mv] 45)).alloc (.cells zero16 59)) from (((Below.refl _ _).alloc (Nat.le_refl _) _).alloc (by simp) _).alloc (by simp; omega) _)
  rw [show (Calls Try.prog 56 #[digV K, .agg #[.int .u64 v, mv]] w) = (Calls Try.prog 56 #[.agg cs, .agg #[.int .u64 v, mv]] w) by rw [hcs]; rfl]
  have HR := Lib.hid (fun (W : World) (k : Ex w W) => ((hp.keep k).more k.size).read)
  have HV1 := Lib.hid hv1
  clear hS hcs hK hmv hp hpw hn hv1 hr
  simp only at HR
  go_enter Try.func56, Try.ntmps56
  go_wp2_with (first | (with_reducible refine Sm.stop_load59 ?_) | (with_reducible refine Sm.stop_store59 ?_) | (with_reducible refine stop_load45 ?_))
  have bw := BW.out
  generalize hw1 : ((w.alloc (.cells cs 59)).alloc (.cells #[.int .u64 v, mv] 45)).alloc (.cells _ 59) = w1
  have D1 : Hid (DB w1 w.heap.size K) := by rw [← hw1]; exact d0
  have L1 : Hid (Bk w1 (w.heap.size + 1) 45 #[.int .u64 v, mv]) := by rw [← hw1]; exact l0
  have Z1 : Hid (Sm.Bk w1 (w.heap.size + 2) 59 zero16) := by rw [← hw1]; exact z0
  have bw1 : Hid (Ex w w1) := by rw [← hw1]; exact Lib.hid bw
  obtain ⟨B, hB⟩ : ∃ B, B = w.heap.size := ⟨_, rfl⟩
  rw [← hB] at D1 L1 Z1 ⊢
  have HB := Lib.hid hB
  clear hw1 bw BW d0 z0 l0 hB
  (with_reducible refine ⟨?_⟩); (with_reducible refine Sm.at_any ?_ ?_); (focus go_simp); refine fun K0 hK => wp_ld45g _ (B + 1) _ _ rfl rfl L1.out (hK _ _ ?_)
  clear hK
  have RR1 := Lib.hid (RR.out w1 bw1.out)
  clear RR
  go_wp2_with (first | (with_reducible refine Sm.stop_load59 ?_) | (with_reducible refine Sm.stop_store59 ?_) | (with_reducible refine stop_load45 ?_))
  refine RR1.out.mono ?_
  rintro e w1b ⟨rfl, xr⟩
  have D1 := Lib.hid (D1.out.ext xr)
  have L1 := Lib.hid (L1.out.ext xr)
  have Z1 := Lib.hid (Z1.out.ext xr)
  have bw1 := Lib.hid (Ex.trans bw1.out xr)
  clear RR1 xr
  have c0 : w1b.cell? ⟨B + 1, 0, none⟩ = some (.int .u64 v) := L1.out.cell 0
  have c1 : w1b.cell? ⟨B + 1, 1, none⟩ = some mv := L1.out.cell 1
  go_wp2_with (first | (with_reducible refine Sm.stop_load59 ?_) | (with_reducible refine Sm.stop_store59 ?_) | (with_reducible refine stop_load45 ?_))
  refine (Sm.number_any v hv0 HV1.out w1b).mono ?_
  rintro e w2 ⟨rfl, nb, x2⟩
  have D2 := Lib.hid (D1.out.ext x2)
  have L2 := Lib.hid (L1.out.ext x2)
  have Z2 := Lib.hid (Z1.out.ext x2)
  have bw2 := Lib.hid (Ex.trans bw1.out x2)
  have own2 := Lib.hid (num_own nb (show B + 3 ≤ w1b.heap.size from Z1.out.lt))
  have sz2 := Lib.hid (show B + 3 ≤ w2.heap.size from Z2.out.lt)
  have ml : Hid (numL v ++ (l.take 0).map by8 = numL v) := Lib.hid (by simp)
  clear D1 L1 Z1 bw1 c0 c1 nb x2
  have c1 : w2.cell? ⟨B + 1, 1, none⟩ = some mv := L2.out.cell 1
  rw [HMV.out] at c1
  go_wp2_with (first | (with_reducible refine Sm.stop_load59 ?_) | (with_reducible refine Sm.stop_store59 ?_) | (with_reducible refine stop_load45 ?_))
  clear c1
  go_loopw [6, 19] (fun t i wr => ∃ (k : Nat), k ≤ n ∧ i = .int .i64 k ∧ Hid (DB wr B K) ∧ Hid (Bk wr (B + 1) 45 #[.int .u64 v, mv]) ∧ Hid (Sm.Bk wr (B + 2) 59 zero16) ∧ Hid (Sm.ownU wr (B + 3) t (numL v ++ (l.take k).map by8)) ∧ Hid (B + 3 ≤ wr.heap.size) ∧ Hid (Ex w wr)) (fun _ i _ => n - (intOf i).toNat)
  case atStart => exact ⟨0, by omega, rfl, D2, L2, Z2, by rw [ml.out]; exact own2, sz2, bw2⟩
  case round =>
    clear D2 L2 Z2 own2 sz2 bw2 ml
    obtain ⟨k, hk, rfl, D2, L2, Z2, own2, sz2, bw2⟩ := hrel
    by_cases hlt : k < n
    · obtain ⟨a, o, rfl, ha, hc⟩ := HR.out wr bw2.out (by rw [← HN.out]; omega)
      rw [← HN.out] at hc
      have cx := hc k hlt
      have q0 : (0 : Int) ≤ (k : Int) := by omega
      have q1 : (k : Int) < (n : Int) := by omega
      have MS := Lib.hid (map_take_succ l k (by rw [← HN.out]; exact hlt))
      obtain ⟨x, hx⟩ : ∃ x, x = l.getD k 0 := ⟨_, rfl⟩
      rw [← hx] at cx MS
      obtain ⟨L, hL⟩ : ∃ L, L = numL v ++ (l.take k).map by8 := ⟨_, rfl⟩
      have ll : L.length ≤ 100 := by rw [hL]; simp [numL]; omega
      rw [← hL] at own2
      have HL := Lib.hid hL
      have xa : Ex wr (wr.alloc (.cells #[.int .u8 (x % 256)] 5)) := (Below.refl _ _).alloc (Nat.le_refl _) _
      have OW := Lib.hid (Sm.own_under own2.out xa)
      have LA := Lib.hid (L2.out.ext xa)
      have DA := Lib.hid (D2.out.ext xa)
      have ZA := Lib.hid (Z2.out.ext xa)
      have NEW := Lib.hid ((Sm.Bk.new (w := wr) rfl 5 #[.int .u8 (x % 256)]).cell 0)
      have SZA := Lib.hid (Nat.le_trans sz2.out xa.size)
      have XA := Lib.hid (Ex.trans bw2.out xa)
      have B8 := Lib.hid (Sm.by8_cells x)
      clear hc hx hL ha xa own2 L2 D2 Z2 sz2 bw2
      go_wp2_with (at_builtin; refine Sm.sm_append rfl (.tmp 23) (.tmp 26) rfl (B + 3) _ L.length (Lib.byteCells L) rfl OW.out (some ⟨wr.heap.size, 0, none⟩) 1 1 [by8 x] rfl ?_ rfl ?_ ?_ ?_ ?_; (focus (exact fun h => by cases h)); (focus (exact fun _ => ⟨_, rfl, fun j u hu => by
          rw [B8.out] at hu
          match j, hu with
          | 0, hu => rw [← hu]; exact NEW.out
          | j + 1, hu => simp at hu⟩)); (focus omega); (focus (exact SZA.out)); intro v3 w3 hown3 hg3; have HO3 := Lib.hid hown3; have HG3 := Lib.hid hg3; clear hown3 hg3)
      have bx3 : Below (B + 3) (wr.alloc (.cells #[.int .u8 (x % 256)] 5)) w3 := (Below.refl _ _).grown HG3.out SZA.out (fun x hx => (World.ownsRow.lt OW.out x hx).1)
      have D3 := Lib.hid (DB.under DA.out bx3 (by omega))
      have L3 := Lib.hid (LA.out.under bx3 (by omega))
      have Z3 := Lib.hid (ZA.out.under bx3 (by omega))
      have own3 : Hid (Sm.ownU w3 (B + 3) v3 (numL v ++ (l.take (k + 1)).map by8)) := Lib.hid (by
        have h := HO3.out
        rw [← Sm.byteCells_app, HL.out, List.append_assoc, ← MS.out, ← HL.out] at h
        have e : (numL v ++ (l.take (k + 1)).map by8).length = L.length + 1 := by rw [MS.out, ← List.append_assoc, ← HL.out]; simp
        unfold Sm.ownU
        rw [e]; exact h)
      have sz3 : Hid (B + 3 ≤ w3.heap.size) := Lib.hid (Nat.le_trans SZA.out bx3.size)
      have bw3 : Hid (Ex w w3) := Lib.hid (Below.trans (show Below w.heap.size w _ from XA.out) (bx3.mono (by rw [← HB.out]; omega)))
      clear bx3 HO3 HG3 OW DA LA ZA NEW SZA XA B8
      go_roundw
      case rel => exact ⟨k + 1, by omega, by go_num, D3, L3, Z3, own3, sz3, bw3⟩
      case measure => simp [intOf]; omega
    · obtain rfl : k = n := by omega
      have TK := Lib.hid (show l.take k = l by rw [HN.out, List.take_length])
      rw [TK.out] at own2
      obtain ⟨q, rfl, hql, hqin, _⟩ := Sm.own_pt own2.out
      go_wp2_with (first | (with_reducible refine Sm.stop_load59 ?_) | (with_reducible refine Sm.stop_store59 ?_) | (with_reducible refine stop_load45 ?_))
      (with_reducible refine ⟨?_⟩); (with_reducible refine Sm.at_any ?_ ?_); (focus go_simp); refine fun K0 hK => Sm.wp_ld _ B K rfl rfl D2.out (hK _ _ ?_)
      clear hK
      have CC := Lib.hid (CK.out q wr hqin hql)
      have Z3 := Lib.hid Z2.out
      clear CK
      go_wp2_with (first | (with_reducible refine Sm.stop_load59 ?_) | (with_reducible refine Sm.stop_store59 ?_) | (with_reducible refine stop_load45 ?_))
      refine CC.out.mono ?_
      rintro e w3 ⟨rfl, x3⟩
      have Z3 := Lib.hid (Z2.out.ext x3)
      have bw3 : Ex w w3 := Ex.trans bw2.out x3
      clear CC x3
      go_wp2_with (first | (with_reducible refine Sm.stop_load59 ?_) | (with_reducible refine Sm.stop_store59 ?_) | (with_reducible refine stop_load45 ?_))
      (with_reducible refine ⟨?_⟩); (with_reducible refine Sm.at_any ?_ ?_); (focus go_simp); refine fun K0 hK => Sm.wp_st _ _ (B + 2) S rfl rfl rfl HS.out Z3.out rfl (fun w4 hd ho => hK _ _ ?_)
      have bw4 := ho.below w.heap.size (by rw [← HB.out]; omega) w bw3
      clear hK ho
      go_wp2_with (first | (with_reducible refine Sm.stop_load59 ?_) | (with_reducible refine Sm.stop_store59 ?_) | (with_reducible refine stop_load45 ?_))
      exact bodyPost_ret (Sm.res_dig2 rfl _ _ (B + 2) rfl S hd) rfl ⟨rfl, bw4⟩
set_option maxHeartbeats 4000000 in
set_option maxRecDepth 100000 in
theorem mark_no (K : List UInt8) (hK : K.length = 16) (v : Int) (p : Pt) (w : World) (hp : p.In w w.heap.size) (hr : rightB v p.l = false) :
    Calls Try.prog 56 #[digV K, LV v p] w fun e w' => e = .returned (.tuple #[digV (List.replicate 16 0), .bool false]) ∧ Below w.heap.size w w' := by
  have RR := Lib.hid (fun W (h : Ex w W) => (show Calls Try.prog 49 #[LV v p] W fun e w' => e = .returned (.bool false) ∧ Below W.heap.size W w' by rw [← hr]; exact right_any v p W ((hp.keep h).more h.size)))
  obtain ⟨ad, cap, l⟩ := p
  simp only at *
  obtain ⟨n, hn⟩ : ∃ n, n = l.length := ⟨_, rfl⟩
  obtain ⟨mv, hmv⟩ : ∃ mv : Value, mv = .slice ad n cap := ⟨_, rfl⟩
  have HMV := Lib.hid hmv
  rw [show (LV v ⟨ad, cap, l⟩) = .agg #[.int .u64 v, mv] by rw [hmv, hn]; rfl] at RR ⊢
  obtain ⟨cs, hcs⟩ : ∃ cs, cs = (Lib.byteCells K).toArray := ⟨_, rfl⟩
  have d0 : Hid (DB (((w.alloc (.cells cs 59)).alloc (.cells #[.int .u64 v, mv] 45)).alloc (.cells zero16 59)) w.heap.size K) := Lib.hid ⟨hK, by rw [hcs]; exact ((Sm.Bk.new rfl _ _).more _).more _⟩
  have l0 : Hid (Bk (((w.alloc (.cells cs 59)).alloc (.cells #[.int .u64 v, mv] 45)).alloc (.cells zero16 59)) (w.heap.size + 1) 45 #[.int .u64 v, mv]) := Lib.hid ((Bk.new (by simp) _ _).more _)
  have z0 : Hid (Sm.Bk (((w.alloc (.cells cs 59)).alloc (.cells #[.int .u64 v, mv] 45)).alloc (.cells zero16 59)) (w.heap.size + 2) 59 zero16) := Lib.hid (Sm.Bk.new (by simp) _ _)
  have BW := Lib.hid (show Ex w (((w.alloc (.cells cs 59)).alloc (.cells #[.int .u64 v, mv] 45)).alloc (.cells zero16 59)) from (((Below.refl _ _).alloc (Nat.le_refl _) _).alloc (by simp) _).alloc (by simp; omega) _)
  rw [show (Calls Try.prog 56 #[digV K, .agg #[.int .u64 v, mv]] w) = (Calls Try.prog 56 #[.agg cs, .agg #[.int .u64 v, mv]] w) by rw [hcs]; rfl]
  clear hcs hK hmv hp hn hr
  go_enter Try.func56, Try.ntmps56
  go_wp2_with (first | (with_reducible refine Sm.stop_load59 ?_) | (with_reducible refine Sm.stop_store59 ?_) | (with_reducible refine stop_load45 ?_))
  have bw := BW.out
  generalize hw1 : ((w.alloc (.cells cs 59)).alloc (.cells #[.int .u64 v, mv] 45)).alloc (.cells _ 59) = w1
  have D1 : Hid (DB w1 w.heap.size K) := by rw [← hw1]; exact d0
  have L1 : Hid (Bk w1 (w.heap.size + 1) 45 #[.int .u64 v, mv]) := by rw [← hw1]; exact l0
  have Z1 : Hid (Sm.Bk w1 (w.heap.size + 2) 59 zero16) := by rw [← hw1]; exact z0
  have bw1 : Hid (Ex w w1) := by rw [← hw1]; exact Lib.hid bw
  obtain ⟨B, hB⟩ : ∃ B, B = w.heap.size := ⟨_, rfl⟩
  rw [← hB] at D1 L1 Z1 ⊢
  have HB := Lib.hid hB
  clear hw1 bw BW d0 z0 l0 hB
  (with_reducible refine ⟨?_⟩); (with_reducible refine Sm.at_any ?_ ?_); (focus go_simp); refine fun K0 hK => wp_ld45g _ (B + 1) _ _ rfl rfl L1.out (hK _ _ ?_)
  clear hK
  have RR1 := Lib.hid (RR.out w1 bw1.out)
  clear RR
  go_wp2_with (first | (with_reducible refine Sm.stop_load59 ?_) | (with_reducible refine Sm.stop_store59 ?_) | (with_reducible refine stop_load45 ?_))
  refine RR1.out.mono ?_
  rintro e w1b ⟨rfl, xr⟩
  have D1 := Lib.hid (D1.out.ext xr)
  have L1 := Lib.hid (L1.out.ext xr)
  have Z1 := Lib.hid (Z1.out.ext xr)
  have bw1 := Lib.hid (Ex.trans bw1.out xr)
  clear RR1 xr
  clear L1
  go_wp2_with (first | (with_reducible refine Sm.stop_load59 ?_) | (with_reducible refine Sm.stop_store59 ?_) | (with_reducible refine stop_load45 ?_))
  (with_reducible refine ⟨?_⟩); (with_reducible refine Sm.at_any ?_ ?_); (focus go_simp); refine fun K0 hK => Sm.wp_st _ _ (B + 2) (List.replicate 16 0) rfl rfl rfl rfl Z1.out rfl (fun w4 hd ho => hK _ _ ?_)
  have bw4 := ho.below w.heap.size (by rw [← HB.out]; omega) w bw1.out
  clear hK ho
  go_wp2_with (first | (with_reducible refine Sm.stop_load59 ?_) | (with_reducible refine Sm.stop_store59 ?_))
  exact bodyPost_ret (Sm.res_dig2 rfl _ _ (B + 2) rfl (List.replicate 16 0) hd) rfl ⟨rfl, bw4⟩
def markR (K : List UInt8) (v : Int) (l : List Int) : List UInt8 := if rightB v l = true then markL K v l else List.replicate 16 0
theorem mark_any (K : List UInt8) (hK : K.length = 16) (v : Int) (hv0 : 0 ≤ v) (hv1 : v < 18446744073709551616) (p : Pt) (w : World) (hp : p.In w w.heap.size) :
    Calls Try.prog 56 #[digV K, LV v p] w fun e w' => e = .returned (.tuple #[digV (markR K v p.l), .bool (rightB v p.l)]) ∧ Below w.heap.size w w' := by
  by_cases h : rightB v p.l = true
  · unfold markR; rw [h, if_pos rfl]
    exact mark_go K hK v hv0 hv1 p (right_len h).2.2.2.1 w hp h
  · have h := Bool.not_eq_true _ ▸ h
    unfold markR; rw [h, if_neg (by decide)]
    exact mark_no K hK v p w hp h
end Go.Proofs.Ytgoiidpcdifojaa
