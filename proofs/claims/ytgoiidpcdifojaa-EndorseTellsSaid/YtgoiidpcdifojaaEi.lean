/- slices.Clone of ints; endorse.Adopt -/
import Derived.Test.YtgoiidpcdifojaaEf
import Derived.Test.YtgoiidpcdifojaaRoJ
import Derived.Test.YtgoiidpcdifojaaRoH
import Derived.Lib.SliceRun
namespace Go.Proofs.Ytgoiidpcdifojaa
open Go.RowKit
open Sm (digV DB by8 sumL numL zero16 by8_int Cls cls_load_mid wp_region_cls byteCells_len)
set_option maxHeartbeats 4000000 in
set_option maxRecDepth 100000 in
theorem iclone_any (p : Pt) (h8 : p.l.length ≤ 1000) (w : World) (hp : p.In w w.heap.size) : Calls Try.prog 65 #[p.V] w (PtPost p.l w) := by
  obtain ⟨ad, cap, l⟩ := p
  cases ad with
  | none =>
    obtain rfl : cap = 0 := hp.nil rfl
    have h0 : l = [] := List.eq_nil_of_length_eq_zero (Nat.le_zero.1 hp.cap)
    subst h0
    unfold Pt.V
    have q43 : ∀ (w : World) (a : Option Addr) (n c n' c' : Nat), (binOp .eql 43 (.slice a n c) (.slice none n' c')).run Try.prog w = .ok (.bool a.isNone) w := fun w a n c n' c' => Lib.run_eql_slice_nil w _ _ a n c n' c' Try.underlying43
    go_enter Try.func65, Try.ntmps65
    go_wp2_with fail
    go_ret
    exact ⟨nilP, rfl, rfl, nil_in _, Below.refl _ _⟩
  | some ad =>
    unfold Pt.V
    simp only at h8 ⊢
    obtain ⟨n, hn⟩ : ∃ n, n = l.length := ⟨_, rfl⟩
    have HN := Lib.hid hn
    have xa : Ex w (w.alloc (.cells (#[] : Array Value) 3)) := (Below.refl _ _).alloc (Nat.le_refl _) _
    have OW := Lib.hid (show ownU (w.alloc (.cells (#[] : Array Value) 3)) w.heap.size (.slice (some ⟨w.heap.size, 0, none⟩) 0 0) [] from World.ownsRow_lit w #[] 0 (Nat.le_refl _) (by unfold maxLen; omega) rfl)
    have HP := Lib.hid (hp.ext xa)
    have XA := Lib.hid xa
    rw [← hn] at h8 ⊢
    have H8 := Lib.hid h8
    have NEWS := Lib.hid (show 0 < n → ∃ ad', some ad = some ad' ∧ ∀ j u, (ic l)[j]? = some u → (w.alloc (.cells (#[] : Array Value) 3)).cell? (ad'.add j) = some u from fun h => by
      obtain ⟨a, o, e, hl, hc⟩ := HP.out.read (by show 0 < l.length; rw [← hn]; exact h)
      refine ⟨ad, rfl, fun j u hu => ?_⟩
      have hj : j < l.length := by have := (List.getElem?_eq_some_iff.1 hu).1; simpa [ic] using this
      have e : ad = ⟨a, o, none⟩ := Option.some.inj e
      subst e
      rw [Addr.add_lit, hc j hj, ← hu]
      simp [ic, List.getD, hj])
    clear hn hp xa
    have q43 : ∀ (w : World) (a : Option Addr) (n c n' c' : Nat), (binOp .eql 43 (.slice a n c) (.slice none n' c')).run Try.prog w = .ok (.bool a.isNone) w := fun w a n c n' c' => Lib.run_eql_slice_nil w _ _ a n c n' c' Try.underlying43
    go_enter Try.func65, Try.ntmps65
    go_wp2_with (at_builtin; refine sm_append rfl (.tmp 5) (.tmp 6) rfl w.heap.size _ 0 (ic []) rfl OW.out (some ad) n cap l rfl ?_ HN.out.symm ?_ ?_ ?_ ?_; (focus (exact fun h => by cases h)); (focus (exact NEWS.out)); (focus (have := H8.out; omega)); (focus (exact XA.out.size)); intro v3 w3 hown3 hg3; have HO3 := Lib.hid hown3; have HG3 := Lib.hid hg3; clear hown3 hg3)
    go_ret
    have bx : Below w.heap.size (w.alloc (.cells (#[] : Array Value) 3)) w3 := (Below.refl _ _).grown HG3.out XA.out.size (fun x hx => (World.ownsRow.lt OW.out x hx).1)
    have ow : ownU w3 w.heap.size v3 l := by
      have h := HO3.out
      unfold ownU
      rw [← HN.out]
      simpa [ic] using h
    obtain ⟨q, hqv, hql, hqin, _⟩ := own_pt ow
    exact ⟨q, by rw [← hqv]; rfl, hql, hqin, Below.trans XA.out bx⟩
def AdPost (v : Int) (L : List Int) (x : Int) (w : World) (e : Ending) (w' : World) : Prop := ∃ q : Pt, e = .returned (.tuple #[LV v q, .int .i64 x]) ∧ q.l = L ∧ q.In w' w'.heap.size ∧ Ex w w'
set_option maxHeartbeats 4000000 in
set_option maxRecDepth 100000 in
theorem adopt_no1 (C : List UInt8) (hC : C.length = 16) (va vl : Int) (hv0 : 0 ≤ vl) (hv1 : vl < 18446744073709551616) (pa pl : Pt) (q : Vp) (w : World) (ha : pa.In w w.heap.size) (hl : pl.In w w.heap.size) (hq : q.In w w.heap.size) (hL : q.l.length ≤ 9223372036854775807) (hLl : pl.l.length ≤ 9223372036854775807) (hf : followsB va pa.l vl pl.l = false) :
    Calls Try.prog 55 #[digV C, LV va pa, LV vl pl, q.V] w (AdPost 0 [] 1 w) := by
  obtain ⟨ma, hma⟩ : ∃ ma : Value, ma = pa.V := ⟨_, rfl⟩
  obtain ⟨ml, hml⟩ : ∃ ml : Value, ml = pl.V := ⟨_, rfl⟩
  have HMA := Lib.hid hma
  have HML := Lib.hid hml
  have FO := Lib.hid (fun W (h : Ex w W) => (show Calls Try.prog 28 #[.agg #[.int .u64 va, ma], .agg #[.int .u64 vl, ml]] W fun e w' => e = .returned (.bool (followsB va pa.l vl pl.l)) ∧ Below W.heap.size W w' by rw [hma, hml]; exact follows_any va vl pa pl W (ha.ext h) (hl.ext h) hLl))
  have CH := Lib.hid (fun W (h : Ex w W) => (show Calls Try.prog 43 #[digV C, .agg #[.int .u64 va, ma], .agg #[.int .u64 vl, ml], q.V] W fun e w' => e = .returned (.tuple #[.int .i64 (chkN C va pa.l vl pl.l q.l : Nat), .bool (chkB C va pa.l vl pl.l q.l)]) ∧ Below W.heap.size W w' by rw [hma, hml]; exact check_any C hC va vl hv0 hv1 pa pl q W (ha.ext h) (hl.ext h) (hq.ext h) hL))
  obtain ⟨cs, hcs⟩ : ∃ cs, cs = (Lib.byteCells C).toArray := ⟨_, rfl⟩
  have d0 : Hid (DB ((((w.alloc (.cells cs 59)).alloc (.cells #[.int .u64 va, ma] 45)).alloc (.cells #[.int .u64 vl, ml] 45)).alloc (.cells #[.int .u64 0, .slice none 0 0] 45)) w.heap.size C) := Lib.hid ⟨hC, by rw [hcs]; exact (((Sm.Bk.new rfl _ _).more _).more _).more _⟩
  have a0 : Hid (Bk ((((w.alloc (.cells cs 59)).alloc (.cells #[.int .u64 va, ma] 45)).alloc (.cells #[.int .u64 vl, ml] 45)).alloc (.cells #[.int .u64 0, .slice none 0 0] 45)) (w.heap.size + 1) 45 #[.int .u64 va, ma]) := Lib.hid (((Bk.new (by simp) _ _).more _).more _)
  have l0 : Hid (Bk ((((w.alloc (.cells cs 59)).alloc (.cells #[.int .u64 va, ma] 45)).alloc (.cells #[.int .u64 vl, ml] 45)).alloc (.cells #[.int .u64 0, .slice none 0 0] 45)) (w.heap.size + 2) 45 #[.int .u64 vl, ml]) := Lib.hid ((Bk.new (by simp) _ _).more _)
  have z0 : Hid (LB ((((w.alloc (.cells cs 59)).alloc (.cells #[.int .u64 va, ma] 45)).alloc (.cells #[.int .u64 vl, ml] 45)).alloc (.cells #[.int .u64 0, .slice none 0 0] 45)) (w.heap.size + 3) 0 nilP) := Lib.hid (Bk.new (by simp) _ _)
  have BW := Lib.hid (show Ex w ((((w.alloc (.cells cs 59)).alloc (.cells #[.int .u64 va, ma] 45)).alloc (.cells #[.int .u64 vl, ml] 45)).alloc (.cells #[.int .u64 0, .slice none 0 0] 45)) from ((((Below.refl _ _).alloc (Nat.le_refl _) _).alloc (by simp) _).alloc (by simp; omega) _).alloc (by simp; omega) _)
  rw [show (Calls Try.prog 55 #[digV C, LV va pa, LV vl pl, q.V] w) = (Calls Try.prog 55 #[.agg cs, .agg #[.int .u64 va, ma], .agg #[.int .u64 vl, ml], q.V] w) by rw [hcs, hma, hml]; rfl]
  obtain ⟨qv, hqv⟩ : ∃ qv, qv = q.V := ⟨_, rfl⟩
  rw [← hqv]
  rw [← hqv] at CH
  clear hcs hma hml hqv hv0 hv1 hC ha hq hL hLl
  rw [hf] at FO
  clear hf CH hl
  go_enter Try.func55, Try.ntmps55
  go_wp2_with (first | (with_reducible refine Sm.stop_load59 ?_) | (with_reducible refine Sm.stop_store59 ?_) | (with_reducible refine stop_load45 ?_) | (with_reducible refine stop_store45 ?_))
  have bw := BW.out
  generalize hw1 : (((w.alloc (.cells cs 59)).alloc (.cells #[.int .u64 va, ma] 45)).alloc (.cells #[.int .u64 vl, ml] 45)).alloc (.cells #[.int .u64 0, .slice none 0 0] 45) = w1 at *
  obtain ⟨B, hB⟩ : ∃ B, B = w.heap.size := ⟨_, rfl⟩
  rw [← hB] at d0 a0 l0 z0 ⊢
  have HB := Lib.hid hB
  clear hw1 hB BW
  have bw := Lib.hid bw
  (with_reducible refine ⟨?_⟩); (with_reducible refine at_any ?_ ?_); (focus go_simp); refine fun K0 hK => wp_ld45g _ (B + 1) _ _ rfl rfl a0.out (hK _ _ ?_)
  clear hK
  go_wp2_with (first | (with_reducible refine Sm.stop_load59 ?_) | (with_reducible refine Sm.stop_store59 ?_) | (with_reducible refine stop_load45 ?_) | (with_reducible refine stop_store45 ?_))
  (with_reducible refine ⟨?_⟩); (with_reducible refine at_any ?_ ?_); (focus go_simp); refine fun K0 hK => wp_ld45g _ (B + 2) _ _ rfl rfl l0.out (hK _ _ ?_)
  clear hK
  have FO1 := Lib.hid (FO.out w1 bw.out)
  clear FO
  go_wp2_with (first | (with_reducible refine Sm.stop_load59 ?_) | (with_reducible refine Sm.stop_store59 ?_) | (with_reducible refine stop_load45 ?_) | (with_reducible refine stop_store45 ?_))
  refine FO1.out.mono ?_
  rintro e w2 ⟨rfl, xr⟩
  have d0 := Lib.hid (d0.out.ext xr)
  have a0 := Lib.hid (a0.out.ext xr)
  have l0 := Lib.hid (l0.out.ext xr)
  have z0 := Lib.hid (LB.ext z0.out xr)
  have bw := Lib.hid (Ex.trans bw.out xr)
  clear FO1 xr
  go_wp2_with (first | (with_reducible refine Sm.stop_load59 ?_) | (with_reducible refine Sm.stop_store59 ?_) | (with_reducible refine stop_load45 ?_) | (with_reducible refine stop_store45 ?_))
  (with_reducible refine ⟨?_⟩); (with_reducible refine at_any ?_ ?_); (focus go_simp); refine fun K0 hK => wp_st45 _ _ (B + 3) 0 0 nilP nilP rfl rfl rfl z0.out (fun w4 hd ho => hK _ _ ?_)
  have bw4 := ho.below w.heap.size (by rw [← HB.out]; omega) w bw.out
  clear hK ho
  go_wp2_with (first | (with_reducible refine Sm.stop_load59 ?_) | (with_reducible refine Sm.stop_store59 ?_) | (with_reducible refine stop_load45 ?_) | (with_reducible refine stop_store45 ?_))
  exact bodyPost_ret (res_lv rfl _ _ (B + 3) rfl 0 nilP hd) rfl ⟨nilP, rfl, rfl, nil_in _, bw4⟩
set_option maxHeartbeats 4000000 in
set_option maxRecDepth 100000 in
theorem adopt_no2 (C : List UInt8) (hC : C.length = 16) (va vl : Int) (hv0 : 0 ≤ vl) (hv1 : vl < 18446744073709551616) (pa pl : Pt) (q : Vp) (w : World) (ha : pa.In w w.heap.size) (hl : pl.In w w.heap.size) (hq : q.In w w.heap.size) (hL : q.l.length ≤ 9223372036854775807) (hLl : pl.l.length ≤ 9223372036854775807) (hf : followsB va pa.l vl pl.l = true) (hc : chkB C va pa.l vl pl.l q.l = false) :
    Calls Try.prog 55 #[digV C, LV va pa, LV vl pl, q.V] w (AdPost 0 [] 30 w) := by
  obtain ⟨ma, hma⟩ : ∃ ma : Value, ma = pa.V := ⟨_, rfl⟩
  obtain ⟨ml, hml⟩ : ∃ ml : Value, ml = pl.V := ⟨_, rfl⟩
  have HMA := Lib.hid hma
  have HML := Lib.hid hml
  have FO := Lib.hid (fun W (h : Ex w W) => (show Calls Try.prog 28 #[.agg #[.int .u64 va, ma], .agg #[.int .u64 vl, ml]] W fun e w' => e = .returned (.bool (followsB va pa.l vl pl.l)) ∧ Below W.heap.size W w' by rw [hma, hml]; exact follows_any va vl pa pl W (ha.ext h) (hl.ext h) hLl))
  have CH := Lib.hid (fun W (h : Ex w W) => (show Calls Try.prog 43 #[digV C, .agg #[.int .u64 va, ma], .agg #[.int .u64 vl, ml], q.V] W fun e w' => e = .returned (.tuple #[.int .i64 (chkN C va pa.l vl pl.l q.l : Nat), .bool (chkB C va pa.l vl pl.l q.l)]) ∧ Below W.heap.size W w' by rw [hma, hml]; exact check_any C hC va vl hv0 hv1 pa pl q W (ha.ext h) (hl.ext h) (hq.ext h) hL))
  obtain ⟨cs, hcs⟩ : ∃ cs, cs = (Lib.byteCells C).toArray := ⟨_, rfl⟩
  have d0 : Hid (DB ((((w.alloc (.cells cs 59)).alloc (.cells #[.int .u64 va, ma] 45)).alloc (.cells #[.int .u64 vl, ml] 45)).alloc (.cells #[.int .u64 0, .slice none 0 0] 45)) w.heap.size C) := Lib.hid ⟨hC, by rw [hcs]; exact (((Sm.Bk.new rfl _ _).more _).more _).more _⟩
  have a0 : Hid (Bk ((((w.alloc (.cells cs 59)).alloc (.cells #[.int .u64 va, ma] 45)).alloc (.cells #[.int .u64 vl, ml] 45)).alloc (.cells #[.int .u64 0, .slice none 0 0] 45)) (w.heap.size + 1) 45 #[.int .u64 va, ma]) := Lib.hid (((Bk.new (by simp) _ _).more _).more _)
  have l0 : Hid (Bk ((((w.alloc (.cells cs 59)).alloc (.cells #[.int .u64 va, ma] 45)).alloc (.cells #[.int .u64 vl, ml] 45)).alloc (.cells #[.int .u64 0, .slice none 0 0] 45)) (w.heap.size + 2) 45 #[.int .u64 vl, ml]) := Lib.hid ((Bk.new (by simp) _ _).more _)
  have z0 : Hid (LB ((((w.alloc (.cells cs 59)).alloc (.cells #[.int .u64 va, ma] 45)).alloc (.cells #[.int .u64 vl, ml] 45)).alloc (.cells #[.int .u64 0, .slice none 0 0] 45)) (w.heap.size + 3) 0 nilP) := Lib.hid (Bk.new (by simp) _ _)
  have BW := Lib.hid (show Ex w ((((w.alloc (.cells cs 59)).alloc (.cells #[.int .u64 va, ma] 45)).alloc (.cells #[.int .u64 vl, ml] 45)).alloc (.cells #[.int .u64 0, .slice none 0 0] 45)) from ((((Below.refl _ _).alloc (Nat.le_refl _) _).alloc (by simp) _).alloc (by simp; omega) _).alloc (by simp; omega) _)
  rw [show (Calls Try.prog 55 #[digV C, LV va pa, LV vl pl, q.V] w) = (Calls Try.prog 55 #[.agg cs, .agg #[.int .u64 va, ma], .agg #[.int .u64 vl, ml], q.V] w) by rw [hcs, hma, hml]; rfl]
  obtain ⟨qv, hqv⟩ : ∃ qv, qv = q.V := ⟨_, rfl⟩
  rw [← hqv]
  rw [← hqv] at CH
  clear hcs hma hml hqv hv0 hv1 hC ha hq hL hLl
  rw [hf] at FO
  rw [hc] at CH
  clear hf hl hc
  go_enter Try.func55, Try.ntmps55
  go_wp2_with (first | (with_reducible refine Sm.stop_load59 ?_) | (with_reducible refine Sm.stop_store59 ?_) | (with_reducible refine stop_load45 ?_) | (with_reducible refine stop_store45 ?_))
  have bw := BW.out
  generalize hw1 : (((w.alloc (.cells cs 59)).alloc (.cells #[.int .u64 va, ma] 45)).alloc (.cells #[.int .u64 vl, ml] 45)).alloc (.cells #[.int .u64 0, .slice none 0 0] 45) = w1 at *
  obtain ⟨B, hB⟩ : ∃ B, B = w.heap.size := ⟨_, rfl⟩
  rw [← hB] at d0 a0 l0 z0 ⊢
  have HB := Lib.hid hB
  clear hw1 hB BW
  have bw := Lib.hid bw
  (with_reducible refine ⟨?_⟩); (with_reducible refine at_any ?_ ?_); (focus go_simp); refine fun K0 hK => wp_ld45g _ (B + 1) _ _ rfl rfl a0.out (hK _ _ ?_)
  clear hK
  go_wp2_with (first | (with_reducible refine Sm.stop_load59 ?_) | (with_reducible refine Sm.stop_store59 ?_) | (with_reducible refine stop_load45 ?_) | (with_reducible refine stop_store45 ?_))
  (with_reducible refine ⟨?_⟩); (with_reducible refine at_any ?_ ?_); (focus go_simp); refine fun K0 hK => wp_ld45g _ (B + 2) _ _ rfl rfl l0.out (hK _ _ ?_)
  clear hK
  have FO1 := Lib.hid (FO.out w1 bw.out)
  clear FO
  go_wp2_with (first | (with_reducible refine Sm.stop_load59 ?_) | (with_reducible refine Sm.stop_store59 ?_) | (with_reducible refine stop_load45 ?_) | (with_reducible refine stop_store45 ?_))
  refine FO1.out.mono ?_
  rintro e w2 ⟨rfl, xr⟩
  have d0 := Lib.hid (d0.out.ext xr)
  have a0 := Lib.hid (a0.out.ext xr)
  have l0 := Lib.hid (l0.out.ext xr)
  have z0 := Lib.hid (LB.ext z0.out xr)
  have bw := Lib.hid (Ex.trans bw.out xr)
  clear FO1 xr
  go_wp2_with (first | (with_reducible refine Sm.stop_load59 ?_) | (with_reducible refine Sm.stop_store59 ?_) | (with_reducible refine stop_load45 ?_) | (with_reducible refine stop_store45 ?_))
  (with_reducible refine ⟨?_⟩); (with_reducible refine at_any ?_ ?_); (focus go_simp); refine fun K0 hK => Sm.wp_ld _ B C rfl rfl d0.out (hK _ _ ?_)
  clear hK
  go_wp2_with (first | (with_reducible refine Sm.stop_load59 ?_) | (with_reducible refine Sm.stop_store59 ?_) | (with_reducible refine stop_load45 ?_) | (with_reducible refine stop_store45 ?_))
  (with_reducible refine ⟨?_⟩); (with_reducible refine at_any ?_ ?_); (focus go_simp); refine fun K0 hK => wp_ld45g _ (B + 1) _ _ rfl rfl a0.out (hK _ _ ?_)
  clear hK
  go_wp2_with (first | (with_reducible refine Sm.stop_load59 ?_) | (with_reducible refine Sm.stop_store59 ?_) | (with_reducible refine stop_load45 ?_) | (with_reducible refine stop_store45 ?_))
  (with_reducible refine ⟨?_⟩); (with_reducible refine at_any ?_ ?_); (focus go_simp); refine fun K0 hK => wp_ld45g _ (B + 2) _ _ rfl rfl l0.out (hK _ _ ?_)
  clear hK
  have CH1 := Lib.hid (CH.out w2 bw.out)
  clear CH
  generalize chkN C va pa.l vl pl.l q.l = cN at CH1
  go_wp2_with (first | (with_reducible refine Sm.stop_load59 ?_) | (with_reducible refine Sm.stop_store59 ?_) | (with_reducible refine stop_load45 ?_) | (with_reducible refine stop_store45 ?_))
  refine CH1.out.mono ?_
  rintro e w3 ⟨rfl, xr⟩
  have d0 := Lib.hid (d0.out.ext xr)
  have a0 := Lib.hid (a0.out.ext xr)
  have l0 := Lib.hid (l0.out.ext xr)
  have z0 := Lib.hid (LB.ext z0.out xr)
  have bw := Lib.hid (Ex.trans bw.out xr)
  clear CH1 xr
  go_wp2_with (first | (with_reducible refine Sm.stop_load59 ?_) | (with_reducible refine Sm.stop_store59 ?_) | (with_reducible refine stop_load45 ?_) | (with_reducible refine stop_store45 ?_))
  (with_reducible refine ⟨?_⟩); (with_reducible refine at_any ?_ ?_); (focus go_simp); refine fun K0 hK => wp_st45 _ _ (B + 3) 0 0 nilP nilP rfl rfl rfl z0.out (fun w4 hd ho => hK _ _ ?_)
  have bw4 := ho.below w.heap.size (by rw [← HB.out]; omega) w bw.out
  clear hK ho
  go_wp2_with (first | (with_reducible refine Sm.stop_load59 ?_) | (with_reducible refine Sm.stop_store59 ?_) | (with_reducible refine stop_load45 ?_) | (with_reducible refine stop_store45 ?_))
  exact bodyPost_ret (res_lv rfl _ _ (B + 3) rfl 0 nilP hd) rfl ⟨nilP, rfl, rfl, nil_in _, bw4⟩
set_option maxHeartbeats 4000000 in
set_option maxRecDepth 100000 in
theorem adopt_go (C : List UInt8) (hC : C.length = 16) (va vl : Int) (hv0 : 0 ≤ vl) (hv1 : vl < 18446744073709551616) (pa pl : Pt) (q : Vp) (w : World) (ha : pa.In w w.heap.size) (hl : pl.In w w.heap.size) (hq : q.In w w.heap.size) (hL : q.l.length ≤ 9223372036854775807) (hLl : pl.l.length ≤ 9223372036854775807) (hf : followsB va pa.l vl pl.l = true) (hc : chkB C va pa.l vl pl.l q.l = true) :
    Calls Try.prog 55 #[digV C, LV va pa, LV vl pl, q.V] w (AdPost vl pl.l 0 w) := by
  have h8 : pl.l.length ≤ 8 := by
    unfold chkB at hc; simp only [Bool.and_eq_true] at hc; exact (right_len hc.1.2).2.2.2.1
  obtain ⟨ma, hma⟩ : ∃ ma : Value, ma = pa.V := ⟨_, rfl⟩
  obtain ⟨ml, hml⟩ : ∃ ml : Value, ml = pl.V := ⟨_, rfl⟩
  have HMA := Lib.hid hma
  have HML := Lib.hid hml
  have FO := Lib.hid (fun W (h : Ex w W) => (show Calls Try.prog 28 #[.agg #[.int .u64 va, ma], .agg #[.int .u64 vl, ml]] W fun e w' => e = .returned (.bool (followsB va pa.l vl pl.l)) ∧ Below W.heap.size W w' by rw [hma, hml]; exact follows_any va vl pa pl W (ha.ext h) (hl.ext h) hLl))
  have CH := Lib.hid (fun W (h : Ex w W) => (show Calls Try.prog 43 #[digV C, .agg #[.int .u64 va, ma], .agg #[.int .u64 vl, ml], q.V] W fun e w' => e = .returned (.tuple #[.int .i64 (chkN C va pa.l vl pl.l q.l : Nat), .bool (chkB C va pa.l vl pl.l q.l)]) ∧ Below W.heap.size W w' by rw [hma, hml]; exact check_any C hC va vl hv0 hv1 pa pl q W (ha.ext h) (hl.ext h) (hq.ext h) hL))
  obtain ⟨cs, hcs⟩ : ∃ cs, cs = (Lib.byteCells C).toArray := ⟨_, rfl⟩
  have d0 : Hid (DB ((((w.alloc (.cells cs 59)).alloc (.cells #[.int .u64 va, ma] 45)).alloc (.cells #[.int .u64 vl, ml] 45)).alloc (.cells #[.int .u64 0, .slice none 0 0] 45)) w.heap.size C) := Lib.hid ⟨hC, by rw [hcs]; exact (((Sm.Bk.new rfl _ _).more _).more _).more _⟩
  have a0 : Hid (Bk ((((w.alloc (.cells cs 59)).alloc (.cells #[.int .u64 va, ma] 45)).alloc (.cells #[.int .u64 vl, ml] 45)).alloc (.cells #[.int .u64 0, .slice none 0 0] 45)) (w.heap.size + 1) 45 #[.int .u64 va, ma]) := Lib.hid (((Bk.new (by simp) _ _).more _).more _)
  have l0 : Hid (Bk ((((w.alloc (.cells cs 59)).alloc (.cells #[.int .u64 va, ma] 45)).alloc (.cells #[.int .u64 vl, ml] 45)).alloc (.cells #[.int .u64 0, .slice none 0 0] 45)) (w.heap.size + 2) 45 #[.int .u64 vl, ml]) := Lib.hid ((Bk.new (by simp) _ _).more _)
  have z0 : Hid (LB ((((w.alloc (.cells cs 59)).alloc (.cells #[.int .u64 va, ma] 45)).alloc (.cells #[.int .u64 vl, ml] 45)).alloc (.cells #[.int .u64 0, .slice none 0 0] 45)) (w.heap.size + 3) 0 nilP) := Lib.hid (Bk.new (by simp) _ _)
  have BW := Lib.hid (show Ex w ((((w.alloc (.cells cs 59)).alloc (.cells #[.int .u64 va, ma] 45)).alloc (.cells #[.int .u64 vl, ml] 45)).alloc (.cells #[.int .u64 0, .slice none 0 0] 45)) from ((((Below.refl _ _).alloc (Nat.le_refl _) _).alloc (by simp) _).alloc (by simp; omega) _).alloc (by simp; omega) _)
  rw [show (Calls Try.prog 55 #[digV C, LV va pa, LV vl pl, q.V] w) = (Calls Try.prog 55 #[.agg cs, .agg #[.int .u64 va, ma], .agg #[.int .u64 vl, ml], q.V] w) by rw [hcs, hma, hml]; rfl]
  obtain ⟨qv, hqv⟩ : ∃ qv, qv = q.V := ⟨_, rfl⟩
  rw [← hqv]
  rw [← hqv] at CH
  clear hcs hma hml hqv hv0 hv1 hC ha hq hL hLl
  have CL := Lib.hid (fun W (h : Ex w W) => (show Calls Try.prog 65 #[ml] W (PtPost pl.l W) by rw [HML.out]; exact iclone_any pl (by omega) W (hl.ext h)))
  rw [hf] at FO
  rw [hc] at CH
  clear hf hl hc h8
  go_enter Try.func55, Try.ntmps55
  go_wp2_with (first | (with_reducible refine Sm.stop_load59 ?_) | (with_reducible refine Sm.stop_store59 ?_) | (with_reducible refine stop_load45 ?_) | (with_reducible refine stop_store45 ?_))
  have bw := BW.out
  generalize hw1 : (((w.alloc (.cells cs 59)).alloc (.cells #[.int .u64 va, ma] 45)).alloc (.cells #[.int .u64 vl, ml] 45)).alloc (.cells #[.int .u64 0, .slice none 0 0] 45) = w1 at *
  obtain ⟨B, hB⟩ : ∃ B, B = w.heap.size := ⟨_, rfl⟩
  rw [← hB] at d0 a0 l0 z0 ⊢
  have HB := Lib.hid hB
  clear hw1 hB BW
  have bw := Lib.hid bw
  (with_reducible refine ⟨?_⟩); (with_reducible refine at_any ?_ ?_); (focus go_simp); refine fun K0 hK => wp_ld45g _ (B + 1) _ _ rfl rfl a0.out (hK _ _ ?_)
  clear hK
  go_wp2_with (first | (with_reducible refine Sm.stop_load59 ?_) | (with_reducible refine Sm.stop_store59 ?_) | (with_reducible refine stop_load45 ?_) | (with_reducible refine stop_store45 ?_))
  (with_reducible refine ⟨?_⟩); (with_reducible refine at_any ?_ ?_); (focus go_simp); refine fun K0 hK => wp_ld45g _ (B + 2) _ _ rfl rfl l0.out (hK _ _ ?_)
  clear hK
  have FO1 := Lib.hid (FO.out w1 bw.out)
  clear FO
  go_wp2_with (first | (with_reducible refine Sm.stop_load59 ?_) | (with_reducible refine Sm.stop_store59 ?_) | (with_reducible refine stop_load45 ?_) | (with_reducible refine stop_store45 ?_))
  refine FO1.out.mono ?_
  rintro e w2 ⟨rfl, xr⟩
  have d0 := Lib.hid (d0.out.ext xr)
  have a0 := Lib.hid (a0.out.ext xr)
  have l0 := Lib.hid (l0.out.ext xr)
  have z0 := Lib.hid (LB.ext z0.out xr)
  have bw := Lib.hid (Ex.trans bw.out xr)
  clear FO1 xr
  go_wp2_with (first | (with_reducible refine Sm.stop_load59 ?_) | (with_reducible refine Sm.stop_store59 ?_) | (with_reducible refine stop_load45 ?_) | (with_reducible refine stop_store45 ?_))
  (with_reducible refine ⟨?_⟩); (with_reducible refine at_any ?_ ?_); (focus go_simp); refine fun K0 hK => Sm.wp_ld _ B C rfl rfl d0.out (hK _ _ ?_)
  clear hK
  go_wp2_with (first | (with_reducible refine Sm.stop_load59 ?_) | (with_reducible refine Sm.stop_store59 ?_) | (with_reducible refine stop_load45 ?_) | (with_reducible refine stop_store45 ?_))
  (with_reducible refine ⟨?_⟩); (with_reducible refine at_any ?_ ?_); (focus go_simp); refine fun K0 hK => wp_ld45g _ (B + 1) _ _ rfl rfl a0.out (hK _ _ ?_)
  clear hK
  go_wp2_with (first | (with_reducible refine Sm.stop_load59 ?_) | (with_reducible refine Sm.stop_store59 ?_) | (with_reducible refine stop_load45 ?_) | (with_reducible refine stop_store45 ?_))
  (with_reducible refine ⟨?_⟩); (with_reducible refine at_any ?_ ?_); (focus go_simp); refine fun K0 hK => wp_ld45g _ (B + 2) _ _ rfl rfl l0.out (hK _ _ ?_)
  clear hK
  have CH1 := Lib.hid (CH.out w2 bw.out)
  clear CH
  generalize chkN C va pa.l vl pl.l q.l = cN at CH1
  go_wp2_with (first | (with_reducible refine Sm.stop_load59 ?_) | (with_reducible refine Sm.stop_store59 ?_) | (with_reducible refine stop_load45 ?_) | (with_reducible refine stop_store45 ?_))
  refine CH1.out.mono ?_
  rintro e w3 ⟨rfl, xr⟩
  have d0 := Lib.hid (d0.out.ext xr)
  have a0 := Lib.hid (a0.out.ext xr)
  have l0 := Lib.hid (l0.out.ext xr)
  have z0 := Lib.hid (LB.ext z0.out xr)
  have bw := Lib.hid (Ex.trans bw.out xr)
  clear CH1 xr
  go_wp2_with (first | (with_reducible refine Sm.stop_load59 ?_) | (with_reducible refine Sm.stop_store59 ?_) | (with_reducible refine stop_load45 ?_) | (with_reducible refine stop_store45 ?_))
  obtain ⟨T, hT⟩ : ∃ T : List Ar, T = [.is (.pointer (some ⟨B + 2, 0, none⟩)), .is (.int .u64 vl), .is (.pointer (some ⟨B + 2, 1, none⟩)), .is (ml), .pt (pl.l), .lv (vl) (pl.l)] := ⟨_, rfl⟩
  refine wp_region_flow2 6 (arPhi T) (by kernel_rfl) rfl (by kernel_rfl) (by kernel_rfl) (by kernel_rfl) (by kernel_rfl) (arPhi_stable T) (fitB_spec (by kernel_rfl)) ?_ ?_
  · intro i o hi ho
    have hi' : i = 0 ∨ i = 1 ∨ i = 2 ∨ i = 3 ∨ i = 4 ∨ i = 5 := by omega
    clear hi
    rcases hi' with rfl | rfl | rfl | rfl | rfl | rfl
    all_goals (simp only [List.getElem?_toArray, List.getElem?_cons_zero, List.getElem?_cons_succ, Option.some.injEq] at ho; subst ho; intro a w2' hx hsz hdep hout)
    · rw [if_pos (by rfl)]
      intro K hK
      have q6 := hout 6 (outB_spec (by kernel_rfl))
      clear hsz hdep hout
      go_simp
      exact hK _ _ (Ex.refl _) (by rw [hT]; rfl)
    · rw [if_pos (by rfl)]
      intro K hK
      obtain ⟨v28, h28, k28⟩ := hdep ⟨0, .data⟩ (by simp) rfl _ rfl
      have q28 := k28 _ rfl
      clear k28
      rw [hT] at h28
      obtain rfl : v28 = .pointer (some ⟨B + 2, 0, none⟩) := h28
      have f1 : w2'.cell? ⟨B + 2, 0, none⟩ = some (.int .u64 vl) := (l0.out.ext (Ex.trans (show Ex w3 w3.drew from (Below.refl _ _).drew) hx)).cell 0
      clear hsz hdep hout
      go_simp
      exact hK _ _ (Ex.refl _) (by rw [hT]; rfl)
    · rw [if_pos (by rfl)]
      intro K hK
      have q6 := hout 6 (outB_spec (by kernel_rfl))
      clear hsz hdep hout
      go_simp
      exact hK _ _ (Ex.refl _) (by rw [hT]; rfl)
    · rw [if_pos (by rfl)]
      intro K hK
      obtain ⟨v30, h30, k30⟩ := hdep ⟨2, .data⟩ (by simp) rfl _ rfl
      have q30 := k30 _ rfl
      clear k30
      rw [hT] at h30
      obtain rfl : v30 = .pointer (some ⟨B + 2, 1, none⟩) := h30
      have f1 : w2'.cell? ⟨B + 2, 1, none⟩ = some (ml) := (l0.out.ext (Ex.trans (show Ex w3 w3.drew from (Below.refl _ _).drew) hx)).cell 1
      clear hsz hdep hout
      go_simp
      exact hK _ _ (Ex.refl _) (by rw [hT]; rfl)
    · rw [if_pos (by rfl)]
      intro K hK
      obtain ⟨v31, h31, k31⟩ := hdep ⟨3, .data⟩ (by simp) rfl _ rfl
      have q31 := k31 _ rfl
      clear k31
      rw [hT] at h31
      obtain rfl : v31 = ml := h31
      rw [Array.getD_eq_getD_getElem?] at q31
      have cm := Lib.hid (CL.out w2' (Ex.trans bw.out (Ex.trans (show Ex w3 w3.drew from (Below.refl _ _).drew) hx)))
      clear hsz hdep hout
      go_simp
      refine cm.out.mono ?_
      rintro e w4 ⟨q4, rfl, lq, iq, xq⟩
      exact hK _ _ xq (by rw [hT]; exact ⟨q4, rfl, lq, iq⟩)
    · rw [if_pos (by rfl)]
      intro K hK
      obtain ⟨v29, h29, k29⟩ := hdep ⟨1, .data⟩ (by simp) rfl _ rfl
      have q29 := k29 _ rfl
      clear k29
      rw [hT] at h29
      obtain rfl : v29 = .int .u64 vl := h29
      obtain ⟨v32, h32, k32⟩ := hdep ⟨4, .data⟩ (by simp) rfl _ rfl
      have q32 := k32 _ rfl
      clear k32
      rw [hT] at h32
      obtain ⟨p32, rfl, l32, i32⟩ := h32
      rw [Array.getD_eq_getD_getElem?] at q29
      rw [Array.getD_eq_getD_getElem?] at q32
      unfold Pt.V at q32
      clear hsz hdep hout
      replace l32 := Lib.hid l32
      go_simp
      exact hK _ _ (Ex.refl _) (by rw [hT]; exact ⟨p32, rfl, l32.out, i32⟩)
  · intro a w2' hx hdef hsz hdone hout
    obtain ⟨v33, h33, k33⟩ := hdone 5 _ (by omega) rfl
    have q33 := k33 _ rfl
    clear k33
    rw [hT] at h33
    obtain ⟨p33, rfl, l33, i33⟩ := h33
    clear hdone hT
    have hA := arr_range a.tmps 34 hsz
    change a.tmps = #[a.tmps[0]?.getD undef, a.tmps[1]?.getD undef, a.tmps[2]?.getD undef, a.tmps[3]?.getD undef, a.tmps[4]?.getD undef, a.tmps[5]?.getD undef, a.tmps[6]?.getD undef, a.tmps[7]?.getD undef, a.tmps[8]?.getD undef, a.tmps[9]?.getD undef, a.tmps[10]?.getD undef, a.tmps[11]?.getD undef, a.tmps[12]?.getD undef, a.tmps[13]?.getD undef, a.tmps[14]?.getD undef, a.tmps[15]?.getD undef, a.tmps[16]?.getD undef, a.tmps[17]?.getD undef, a.tmps[18]?.getD undef, a.tmps[19]?.getD undef, a.tmps[20]?.getD undef, a.tmps[21]?.getD undef, a.tmps[22]?.getD undef, a.tmps[23]?.getD undef, a.tmps[24]?.getD undef, a.tmps[25]?.getD undef, a.tmps[26]?.getD undef, a.tmps[27]?.getD undef, a.tmps[28]?.getD undef, a.tmps[29]?.getD undef, a.tmps[30]?.getD undef, a.tmps[31]?.getD undef, a.tmps[32]?.getD undef, a.tmps[33]?.getD undef] at hA
    have e0 := hout 0 (fun i o _ h => outB_spec (by kernel_rfl) i o h)
    have e1 := hout 1 (fun i o _ h => outB_spec (by kernel_rfl) i o h)
    have e2 := hout 2 (fun i o _ h => outB_spec (by kernel_rfl) i o h)
    have e3 := hout 3 (fun i o _ h => outB_spec (by kernel_rfl) i o h)
    have e4 := hout 4 (fun i o _ h => outB_spec (by kernel_rfl) i o h)
    have e5 := hout 5 (fun i o _ h => outB_spec (by kernel_rfl) i o h)
    have e6 := hout 6 (fun i o _ h => outB_spec (by kernel_rfl) i o h)
    have e7 := hout 7 (fun i o _ h => outB_spec (by kernel_rfl) i o h)
    have e8 := hout 8 (fun i o _ h => outB_spec (by kernel_rfl) i o h)
    have e10 := hout 10 (fun i o _ h => outB_spec (by kernel_rfl) i o h)
    have e11 := hout 11 (fun i o _ h => outB_spec (by kernel_rfl) i o h)
    have e12 := hout 12 (fun i o _ h => outB_spec (by kernel_rfl) i o h)
    have e13 := hout 13 (fun i o _ h => outB_spec (by kernel_rfl) i o h)
    have e14 := hout 14 (fun i o _ h => outB_spec (by kernel_rfl) i o h)
    have e15 := hout 15 (fun i o _ h => outB_spec (by kernel_rfl) i o h)
    have e16 := hout 16 (fun i o _ h => outB_spec (by kernel_rfl) i o h)
    have e17 := hout 17 (fun i o _ h => outB_spec (by kernel_rfl) i o h)
    have e18 := hout 18 (fun i o _ h => outB_spec (by kernel_rfl) i o h)
    have e19 := hout 19 (fun i o _ h => outB_spec (by kernel_rfl) i o h)
    have e20 := hout 20 (fun i o _ h => outB_spec (by kernel_rfl) i o h)
    have e21 := hout 21 (fun i o _ h => outB_spec (by kernel_rfl) i o h)
    have e22 := hout 22 (fun i o _ h => outB_spec (by kernel_rfl) i o h)
    have e23 := hout 23 (fun i o _ h => outB_spec (by kernel_rfl) i o h)
    have e24 := hout 24 (fun i o _ h => outB_spec (by kernel_rfl) i o h)
    have e25 := hout 25 (fun i o _ h => outB_spec (by kernel_rfl) i o h)
    have e26 := hout 26 (fun i o _ h => outB_spec (by kernel_rfl) i o h)
    have e27 := hout 27 (fun i o _ h => outB_spec (by kernel_rfl) i o h)
    simp only [Array.getD_eq_getD_getElem?, List.getElem?_toArray, List.getElem?_cons_zero, List.getElem?_cons_succ, Option.getD_some] at e0 e1 e2 e3 e4 e5 e6 e7 e8 e10 e11 e12 e13 e14 e15 e16 e17 e18 e19 e20 e21 e22 e23 e24 e25 e26 e27
    rw [e0, e1, e2, e3, e4, e5, e6, e7, e8, e10, e11, e12, e13, e14, e15, e16, e17, e18, e19, e20, e21, e22, e23, e24, e25, e26, e27] at hA
    clear e0 e1 e2 e3 e4 e5 e6 e7 e8 e10 e11 e12 e13 e14 e15 e16 e17 e18 e19 e20 e21 e22 e23 e24 e25 e26 e27 hout
    have hds2 : a.defers = [] := hdef
    have ea : a = ⟨a.tmps, a.defers⟩ := rfl
    rw [Array.getD_eq_getD_getElem?] at q33
    rw [hA, hds2, q33] at ea
    clear hA hds2 q33 hdef
    generalize a.tmps[28]?.getD undef = y28 at ea
    generalize a.tmps[29]?.getD undef = y29 at ea
    generalize a.tmps[30]?.getD undef = y30 at ea
    generalize a.tmps[31]?.getD undef = y31 at ea
    generalize a.tmps[32]?.getD undef = y32 at ea
    generalize a.tmps[9]?.getD undef = y9 at ea
    clear hsz
    subst ea
    have bx : Ex w3 w2' := Ex.trans (show Ex w3 w3.drew from (Below.refl _ _).drew) hx
    refine wpOp_do rfl (by rfl) ?_
    have Z2 := LB.ext z0.out bx
    have bw2 : Ex w w2' := Ex.trans bw.out bx
    refine wp_st45 _ _ (B + 3) vl 0 p33 nilP rfl rfl rfl Z2 (fun w5 hd ho => ?_)
    have i3 := i33.st ho Z2
    have bw3 := ho.below w.heap.size (by rw [← HB.out]; omega) w bw2
    refine wpOp_do rfl (by rfl) ?_
    clear bx i33 ho Z2 bw2 hx z0 a0 l0 d0 CL
    go_simp
    go_wp2_with (first | (with_reducible refine Sm.stop_load59 ?_) | (with_reducible refine Sm.stop_store59 ?_) | (with_reducible refine stop_load45 ?_) | (with_reducible refine stop_store45 ?_))
    exact bodyPost_ret (res_lv rfl _ _ (B + 3) rfl vl p33 hd) rfl ⟨p33, rfl, l33, i3, bw3⟩
def adV (C : List UInt8) (va : Int) (la : List Int) (vl : Int) (ll : List Int) (vs : List (Int × List UInt8)) : Int := if (followsB va la vl ll && chkB C va la vl ll vs) = true then vl else 0
def adL (C : List UInt8) (va : Int) (la : List Int) (vl : Int) (ll : List Int) (vs : List (Int × List UInt8)) : List Int := if (followsB va la vl ll && chkB C va la vl ll vs) = true then ll else []
def adE (C : List UInt8) (va : Int) (la : List Int) (vl : Int) (ll : List Int) (vs : List (Int × List UInt8)) : Int := if followsB va la vl ll = true then (if chkB C va la vl ll vs = true then 0 else 30) else 1
theorem adopt_any (C : List UInt8) (hC : C.length = 16) (va vl : Int) (hv0 : 0 ≤ vl) (hv1 : vl < 18446744073709551616) (pa pl : Pt) (q : Vp) (w : World) (ha : pa.In w w.heap.size) (hl : pl.In w w.heap.size) (hq : q.In w w.heap.size) (hL : q.l.length ≤ 9223372036854775807) (hLl : pl.l.length ≤ 9223372036854775807) :
    Calls Try.prog 55 #[digV C, LV va pa, LV vl pl, q.V] w (AdPost (adV C va pa.l vl pl.l q.l) (adL C va pa.l vl pl.l q.l) (adE C va pa.l vl pl.l q.l) w) := by
  unfold adV adL adE
  cases h1 : followsB va pa.l vl pl.l
  · exact adopt_no1 C hC va vl hv0 hv1 pa pl q w ha hl hq hL hLl h1
  · cases h2 : chkB C va pa.l vl pl.l q.l
    · exact adopt_no2 C hC va vl hv0 hv1 pa pl q w ha hl hq hL hLl h1 h2
    · exact adopt_go C hC va vl hv0 hv1 pa pl q w ha hl hq hL hLl h1 h2
end Go.Proofs.Ytgoiidpcdifojaa
