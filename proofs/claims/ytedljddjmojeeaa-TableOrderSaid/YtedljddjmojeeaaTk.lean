/- known of chapter 12 -/
import Derived.Test.YtedljddjmojeeaaTi
import Derived.Test.YtedljddjmojeeaaTj
namespace Go.Proofs.Ytedljddjmojeeaa
open Go.RowKit
theorem Try.infoU8 : (Try.prog.info? 5).map (fun i => (i.zero, i.size, i.bytes)) = some (some (.int .u8 0), 1, 1) := by kernel_rfl
def fst (x : Vt) : UInt8 := x.id.getD 0 0
theorem Vt.C0 {x : Vt} (h : x.Ok) : x.C[0]? = some (.int .u8 ((fst x).toNat : Int)) := by
 obtain ⟨a, b, c, d, e⟩ := len4 h.idN
 unfold fst Vt.C
 rw [e]; rfl
theorem own_len {w : World} {B n : Nat} {v : Value} {l : List UInt8} (h : w.ownsRow B 5 1 v n (Lib.byteCells l)) (hl : l.length = n) : ownU w B v l := by unfold ownU; rw [hl]; exact h
def IdsPost (l : List UInt8) (w : World) (e : Ending) (w' : World) : Prop := ∃ p : Pt, e = .returned p.V ∧ p.l = l ∧ p.In w' w'.heap.size ∧ Ex w w'
set_option maxHeartbeats 4000000 in
set_option maxRecDepth 100000 in
theorem ids_any (ad : Option Addr) (cap : Nat) (xs : List Vt) (hL : xs.length ≤ 1000) (w : World) (hin : Vp.In ad cap xs w) : Calls Try.prog 52 #[.slice ad xs.length cap] w (IdsPost (xs.map fst) w) := by
 have HIN := Lib.hid hin
 obtain ⟨n, hn⟩ : ∃ n, n = xs.length := ⟨_, rfl⟩
 rw [← hn] at hL ⊢
 have HN := Lib.hid hn
 clear hn hin
 go_enter Try.func52, Try.ntmps52
 go_wp2_with (first | (with_reducible refine stop_bs (t := 28) ?_) | (with_reducible refine stop_app ?_))
 go_loopw [3, 4] (fun v i wr => ∃ k : Nat, k ≤ n ∧ i = .int .i64 k ∧ Hid (wr.ownsRow w.heap.size 5 1 v k (Lib.byteCells ((xs.take k).map fst))) ∧ Hid (Ex w wr)) (fun _ i _ => n - (intOf i).toNat)
 case atStart => exact ⟨0, by omega, rfl, Lib.hid (World.ownsRow_nil _ _ _ _), Lib.hid (Ex.refl _)⟩
 case round =>
  obtain ⟨k, hk, rfl, RW, BW⟩ := hrel
  by_cases hlt : k < n
  ·have q0 : (0 : Int) ≤ (k : Int) := by omega
   have q1 : (k : Int) < (n : Int) := by omega
   obtain ⟨x, hx⟩ : ∃ x, xs[k]? = some x := ⟨_, List.getElem?_eq_getElem (by rw [← HN.out]; omega)⟩
   obtain ⟨ab, o, rfl, hab2, hra⟩ := (HIN.out.ext BW.out).read (by rw [← HN.out]; omega)
   have c0 : wr.cell? ⟨ab, o + k * 42, none⟩ = some (.int .u8 ((fst x).toNat : Int)) := hra k x hx 0 _ (Vt.C0 (HIN.out.ok k x hx))
   have HXK := Lib.hid hx
   clear hra hab2 hx
   go_wp2_with (first | (with_reducible refine stop_bs (t := 28) ?_) | (with_reducible refine stop_app ?_))
   (with_reducible refine ⟨?_⟩)
   go_wp2_with (first | (with_reducible refine stop_app ?_))
   have xa := Ex.alloc wr (.cells #[.int .u8 ((fst x).toNat : Int)] 5)
   have NB := Lib.hid (Bk.new (g := wr.heap.size) (w := wr) rfl 5 #[.int .u8 ((fst x).toNat : Int)])
   replace BW := Lib.hid (Ex.trans BW.out xa)
   replace RW := Lib.hid (xa.row RW.out)
   clear xa
   (with_reducible refine ⟨?_⟩)
   change wpList _ _ _ _ _ (wr.alloc (.cells #[.int .u8 ((fst x).toNat : Int)] 5))
   generalize hw4 : (wr.alloc (.cells #[.int .u8 ((fst x).toNat : Int)] 5)) = w4 at *
   obtain ⟨g2, hg⟩ : ∃ g, g = wr.heap.size := ⟨_, rfl⟩
   rw [← hg] at NB ⊢
   clear hw4 hg
   have MR := Lib.hid (Many.rd (n := 1) (sz := 1) (cs := [.int .u8 ((fst x).toNat : Int)]) ⟨g2, rfl, NB.out⟩ rfl)
   obtain ⟨adx, ex, nx, rx⟩ := MR.out
   cases ex
   have RX := Lib.hid rx
   clear rx nx MR
   (with_reducible refine at_any ?_ ?_); (focus go_simp); refine fun K0 hK => wp_rd _ _ 28 5 (.int .u8 0) 1 1 rfl Try.underlying28 Try.infoU8 rfl (by decide) w.heap.size k _ _ rfl RW.out BW.out.sz' _ 1 1 _ rfl RX.out (Nat.le_refl _) (fun h => by cases h) (fun u hu => by rw [List.mem_singleton.1 hu]; rfl) (by omega) (by omega) (fun v5 w5 r1 r2 => hK _ _ ?_)
   clear hK
   replace BW := Lib.hid (show Ex w w5 from Below.trans (show Below w.heap.size w _ from BW.out) r2.below)
   replace RW : Hid (w5.ownsRow w.heap.size 5 1 v5 (k + 1) (Lib.byteCells ((xs.take (k + 1)).map fst))) := Lib.hid (by rw [List.take_add_one, HXK.out, List.map_append, byteCells_app]; exact r1)
   clear r1 r2
   go_wp2_with (first | (with_reducible refine stop_bs (t := 28) ?_) | (with_reducible refine stop_app ?_))
   (first | (refine ⟨?_, ?measure⟩; (repeat apply Exists.intro); refine ⟨?rel, rfl⟩) | refine ⟨?rel, ?measure⟩)
   case rel => exact ⟨k + 1, by omega, by go_num, RW, BW⟩
   case measure => simp [intOf]; omega
  ·obtain rfl : k = n := by omega
   have q1 : ¬ (k : Int) < (k : Int) := by omega
   go_wp2_with fail
   go_ret
   skip
   have r2 := RW.out
   rw [List.take_of_length_le (by rw [← HN.out]; exact Nat.le_refl _)] at r2
   have ho := own_len (l := xs.map fst) r2 (by rw [List.length_map]; exact HN.out.symm)
   obtain ⟨p, e1, e2, e3, _⟩ := own_pt ho
   exact ⟨p, congrArg Ending.returned e1, e2, e3, BW.out⟩
def gct (m : Nat) : Vc := (goneVt [UInt8.ofNat m, 0, 0, 0] 1 false).ct
def LK : Nat → List Vc
 | 0 => []
 | k + 1 => gct (9 - k) :: LK k
def idL (l : List Vc) (q : Nat) : Nat := idn (l.getD q zeroVc).id
theorem idF_ctL {vs : List Vt} {l : List Vc} (h : vs.map Vt.ct = l) (q : Nat) : idF vs q = idL l q := by
 subst h
 unfold idF idL
 rw [List.getD_eq_getElem?_getD, List.getD_eq_getElem?_getD, List.getElem?_map]
 cases vs[q]? <;> rfl
theorem LK_len (k : Nat) : (LK k).length = k := by induction k with
 | zero => rfl
 | succ k ih => unfold LK; rw [List.length_cons, ih]
theorem LK_ids : ∀ k, k < 5 → ∀ q, q < k → idn [UInt8.ofNat (9 - k), 0, 0, 0] < idL (LK k) q := by decide
theorem LK_0 : ∀ q, q < 4 → idL (LK 4) q ≠ 0 := by decide
theorem LK_1 : ∀ q, q < 4 → idL (LK 4) q ≠ idn [1, 0, 0, 0] := by decide
theorem put_low {D : Nat} {rv : Value} {vs : List Vt} {w w' : World} {e : Ending} {k : Nat} {x : Vt} (hk : k < 4) (hvs : vs.map Vt.ct = LK k) (hx : x = goneVt [UInt8.ofNat (9 - k), 0, 0, 0] 1 false) (h : PutPost D rv vs x w e w') :
  ∃ z rv', e = .returned (.int .i64 0) ∧ TB w' D rv' (z :: vs) ∧ (z :: vs).map Vt.ct = LK (k + 1) ∧ Tc D rv.ownBlock w w' := by
 have hl : vs.length = k := by have := congrArg List.length hvs; rw [LK_len, List.length_map] at this; exact this
 have hlt : ∀ q, q < vs.length → idn x.id < idF vs q := fun q hq => by rw [idF_ctL hvs, hx]; exact LK_ids k (by omega) q (by omega)
 have hr : x.ct.right = true := by rw [hx]; exact goneVt_right (by decide) (by decide)
 rcases h with ⟨h1, _⟩ | ⟨_, p, ⟨h1, h2, h3⟩, ⟨z, hp, hf, _⟩ | ⟨_, h4, _⟩ | ⟨z, rv', _, _, rfl, hz, ht, htc, _⟩⟩
 ·rw [hr] at h1; cases h1
 ·have := hlt p hp; omega
 ·omega
 ·have hp0 : p = 0 := by
   rcases Nat.eq_zero_or_pos p with h | h
   ·exact h
   ·have a1 := h2 0 h
    have a2 := hlt 0 (by omega)
    omega
  subst hp0
  refine ⟨z, rv', rfl, by simpa using ht, ?_, htc⟩
  rw [List.map_cons, hvs, hz, hx]; rfl
theorem put_full {D : Nat} {rv : Value} {vs : List Vt} {w w' : World} {e : Ending} {x : Vt} (hvs : vs.map Vt.ct = LK 4) (hx : x = goneVt [1, 0, 0, 0] 1 false) (h : PutPost D rv vs x w e w') : e = .returned (.int .i64 13) ∧ Ex w w' := by
 have hl : vs.length = 4 := by have := congrArg List.length hvs; rw [LK_len, List.length_map] at this; exact this
 have hr : x.ct.right = true := by rw [hx]; exact goneVt_right (by decide) (by decide)
 rcases h with ⟨h1, _⟩ | ⟨_, p, ⟨h1, h2, h3⟩, ⟨z, hp, hf, _⟩ | ⟨_, _, he, hx'⟩ | ⟨z, rv', _, h4, _⟩⟩
 ·rw [hr] at h1; cases h1
 ·rw [idF_ctL hvs, hx] at hf; exact absurd hf (LK_1 p (by omega))
 ·exact ⟨he, hx'⟩
 ·omega
theorem str6 : strL [6, 7, 8, 9] = ⟨#[6, 7, 8, 9]⟩ := rfl
set_option maxHeartbeats 4000000 in
set_option maxRecDepth 100000 in
theorem known12 (w : World) : Calls Try.prog 20 #[] w fun e w' => e = .returned (.bool true) ∧ Ex w w' := by
 go_enter Try.func20, Try.ntmps20
 go_wp2_with (first | (with_reducible refine stop_load (t := 30) ?_) | (with_reducible refine stop_store (t := 30) ?_) | (with_reducible refine stop_load (t := 24) ?_) | (with_reducible refine stop_store (t := 24) ?_) | (with_reducible refine stop_build (t := 30) ?_) | (with_reducible refine stop_bs (t := 59) ?_) | (with_reducible refine stop_app ?_))
 refine (tnew_any w).mono ?_
 rintro e w1 ⟨D, rfl, hD, ht, x1⟩
 have HD := Lib.hid hD
 have HT := Lib.hid ht
 have BW := Lib.hid x1
 clear hD ht x1
 go_wp2_with (first | (with_reducible refine stop_load (t := 30) ?_) | (with_reducible refine stop_store (t := 30) ?_) | (with_reducible refine stop_load (t := 24) ?_) | (with_reducible refine stop_store (t := 24) ?_) | (with_reducible refine stop_build (t := 30) ?_) | (with_reducible refine stop_bs (t := 59) ?_) | (with_reducible refine stop_app ?_))
 go_loopw [2] (fun i wr => ∃ (k : Nat) (rv : Value) (vs : List Vt), k ≤ 4 ∧ i = .int .i64 k ∧ Hid (TB wr D rv vs) ∧ Hid (vs.map Vt.ct = LK k) ∧ Hid (Ex w wr)) (fun i _ => 4 - (intOf i).toNat)
 case atStart => exact ⟨0, _, _, by omega, rfl, HT, Lib.hid rfl, BW⟩
 case round =>
  clear HT BW
  obtain ⟨k, rv, vs, hk, rfl, HT, HV, BW⟩ := hrel
  obtain h | h | h | h | h : k = 0 ∨ k = 1 ∨ k = 2 ∨ k = 3 ∨ k = 4 := by omega
  ·subst h
   go_wp2_with (first | (with_reducible refine stop_load (t := 30) ?_) | (with_reducible refine stop_store (t := 30) ?_) | (with_reducible refine stop_load (t := 24) ?_) | (with_reducible refine stop_store (t := 24) ?_) | (with_reducible refine stop_build (t := 30) ?_) | (with_reducible refine stop_bs (t := 59) ?_) | (with_reducible refine stop_app ?_))
   (with_reducible refine ⟨?_⟩); (with_reducible refine at_any ?_ ?_); (focus go_simp); refine fun K0 hK => wp_build _ _ rfl (goneVt [9, 0, 0, 0] 1 false).C.toArray (built_gone3 [9, 0, 0, 0] 1 rfl) (hK _ _ ?_)
   clear hK
   go_wp2_with (first | (with_reducible refine stop_load (t := 30) ?_) | (with_reducible refine stop_store (t := 30) ?_) | (with_reducible refine stop_load (t := 24) ?_) | (with_reducible refine stop_store (t := 24) ?_) | (with_reducible refine stop_build (t := 30) ?_) | (with_reducible refine stop_bs (t := 59) ?_) | (with_reducible refine stop_app ?_))
   refine (tput_any D rv vs (goneVt [9, 0, 0, 0] 1 false) wr HT.out ⟨goneVt_ok rfl (by decide) (by decide), nilB_in _ _⟩).mono ?_
   rintro e w2 hpp
   obtain ⟨z, rv2, rfl, ht, hv, htc⟩ := put_low (k := 0) (by decide) HV.out rfl hpp
   have HRB := HT.out.row.row.lt
   replace BW := Lib.hid (htc.ex BW.out HD.out (fun g hg => Nat.le_trans HD.out (Nat.le_of_lt (HRB g hg).1)))
   replace HT := Lib.hid ht
   replace HV := Lib.hid hv
   clear ht hv htc hpp HRB
   go_wp2_with (first | (with_reducible refine stop_load (t := 30) ?_) | (with_reducible refine stop_store (t := 30) ?_) | (with_reducible refine stop_load (t := 24) ?_) | (with_reducible refine stop_store (t := 24) ?_) | (with_reducible refine stop_build (t := 30) ?_) | (with_reducible refine stop_bs (t := 59) ?_) | (with_reducible refine stop_app ?_))
   go_roundw
   case rel => exact ⟨1, rv2, z :: vs, by omega, by first | rfl | go_num, HT, HV, BW⟩
   case measure => simp [intOf]
  ·subst h
   go_wp2_with (first | (with_reducible refine stop_load (t := 30) ?_) | (with_reducible refine stop_store (t := 30) ?_) | (with_reducible refine stop_load (t := 24) ?_) | (with_reducible refine stop_store (t := 24) ?_) | (with_reducible refine stop_build (t := 30) ?_) | (with_reducible refine stop_bs (t := 59) ?_) | (with_reducible refine stop_app ?_))
   (with_reducible refine ⟨?_⟩); (with_reducible refine at_any ?_ ?_); (focus go_simp); refine fun K0 hK => wp_build _ _ rfl (goneVt [8, 0, 0, 0] 1 false).C.toArray (built_gone3 [8, 0, 0, 0] 1 rfl) (hK _ _ ?_)
   clear hK
   go_wp2_with (first | (with_reducible refine stop_load (t := 30) ?_) | (with_reducible refine stop_store (t := 30) ?_) | (with_reducible refine stop_load (t := 24) ?_) | (with_reducible refine stop_store (t := 24) ?_) | (with_reducible refine stop_build (t := 30) ?_) | (with_reducible refine stop_bs (t := 59) ?_) | (with_reducible refine stop_app ?_))
   refine (tput_any D rv vs (goneVt [8, 0, 0, 0] 1 false) wr HT.out ⟨goneVt_ok rfl (by decide) (by decide), nilB_in _ _⟩).mono ?_
   rintro e w2 hpp
   obtain ⟨z, rv2, rfl, ht, hv, htc⟩ := put_low (k := 1) (by decide) HV.out rfl hpp
   have HRB := HT.out.row.row.lt
   replace BW := Lib.hid (htc.ex BW.out HD.out (fun g hg => Nat.le_trans HD.out (Nat.le_of_lt (HRB g hg).1)))
   replace HT := Lib.hid ht
   replace HV := Lib.hid hv
   clear ht hv htc hpp HRB
   go_wp2_with (first | (with_reducible refine stop_load (t := 30) ?_) | (with_reducible refine stop_store (t := 30) ?_) | (with_reducible refine stop_load (t := 24) ?_) | (with_reducible refine stop_store (t := 24) ?_) | (with_reducible refine stop_build (t := 30) ?_) | (with_reducible refine stop_bs (t := 59) ?_) | (with_reducible refine stop_app ?_))
   go_roundw
   case rel => exact ⟨2, rv2, z :: vs, by omega, by first | rfl | go_num, HT, HV, BW⟩
   case measure => simp [intOf]
  ·subst h
   go_wp2_with (first | (with_reducible refine stop_load (t := 30) ?_) | (with_reducible refine stop_store (t := 30) ?_) | (with_reducible refine stop_load (t := 24) ?_) | (with_reducible refine stop_store (t := 24) ?_) | (with_reducible refine stop_build (t := 30) ?_) | (with_reducible refine stop_bs (t := 59) ?_) | (with_reducible refine stop_app ?_))
   (with_reducible refine ⟨?_⟩); (with_reducible refine at_any ?_ ?_); (focus go_simp); refine fun K0 hK => wp_build _ _ rfl (goneVt [7, 0, 0, 0] 1 false).C.toArray (built_gone3 [7, 0, 0, 0] 1 rfl) (hK _ _ ?_)
   clear hK
   go_wp2_with (first | (with_reducible refine stop_load (t := 30) ?_) | (with_reducible refine stop_store (t := 30) ?_) | (with_reducible refine stop_load (t := 24) ?_) | (with_reducible refine stop_store (t := 24) ?_) | (with_reducible refine stop_build (t := 30) ?_) | (with_reducible refine stop_bs (t := 59) ?_) | (with_reducible refine stop_app ?_))
   refine (tput_any D rv vs (goneVt [7, 0, 0, 0] 1 false) wr HT.out ⟨goneVt_ok rfl (by decide) (by decide), nilB_in _ _⟩).mono ?_
   rintro e w2 hpp
   obtain ⟨z, rv2, rfl, ht, hv, htc⟩ := put_low (k := 2) (by decide) HV.out rfl hpp
   have HRB := HT.out.row.row.lt
   replace BW := Lib.hid (htc.ex BW.out HD.out (fun g hg => Nat.le_trans HD.out (Nat.le_of_lt (HRB g hg).1)))
   replace HT := Lib.hid ht
   replace HV := Lib.hid hv
   clear ht hv htc hpp HRB
   go_wp2_with (first | (with_reducible refine stop_load (t := 30) ?_) | (with_reducible refine stop_store (t := 30) ?_) | (with_reducible refine stop_load (t := 24) ?_) | (with_reducible refine stop_store (t := 24) ?_) | (with_reducible refine stop_build (t := 30) ?_) | (with_reducible refine stop_bs (t := 59) ?_) | (with_reducible refine stop_app ?_))
   go_roundw
   case rel => exact ⟨3, rv2, z :: vs, by omega, by first | rfl | go_num, HT, HV, BW⟩
   case measure => simp [intOf]
  ·subst h
   go_wp2_with (first | (with_reducible refine stop_load (t := 30) ?_) | (with_reducible refine stop_store (t := 30) ?_) | (with_reducible refine stop_load (t := 24) ?_) | (with_reducible refine stop_store (t := 24) ?_) | (with_reducible refine stop_build (t := 30) ?_) | (with_reducible refine stop_bs (t := 59) ?_) | (with_reducible refine stop_app ?_))
   (with_reducible refine ⟨?_⟩); (with_reducible refine at_any ?_ ?_); (focus go_simp); refine fun K0 hK => wp_build _ _ rfl (goneVt [6, 0, 0, 0] 1 false).C.toArray (built_gone3 [6, 0, 0, 0] 1 rfl) (hK _ _ ?_)
   clear hK
   go_wp2_with (first | (with_reducible refine stop_load (t := 30) ?_) | (with_reducible refine stop_store (t := 30) ?_) | (with_reducible refine stop_load (t := 24) ?_) | (with_reducible refine stop_store (t := 24) ?_) | (with_reducible refine stop_build (t := 30) ?_) | (with_reducible refine stop_bs (t := 59) ?_) | (with_reducible refine stop_app ?_))
   refine (tput_any D rv vs (goneVt [6, 0, 0, 0] 1 false) wr HT.out ⟨goneVt_ok rfl (by decide) (by decide), nilB_in _ _⟩).mono ?_
   rintro e w2 hpp
   obtain ⟨z, rv2, rfl, ht, hv, htc⟩ := put_low (k := 3) (by decide) HV.out rfl hpp
   have HRB := HT.out.row.row.lt
   replace BW := Lib.hid (htc.ex BW.out HD.out (fun g hg => Nat.le_trans HD.out (Nat.le_of_lt (HRB g hg).1)))
   replace HT := Lib.hid ht
   replace HV := Lib.hid hv
   clear ht hv htc hpp HRB
   go_wp2_with (first | (with_reducible refine stop_load (t := 30) ?_) | (with_reducible refine stop_store (t := 30) ?_) | (with_reducible refine stop_load (t := 24) ?_) | (with_reducible refine stop_store (t := 24) ?_) | (with_reducible refine stop_build (t := 30) ?_) | (with_reducible refine stop_bs (t := 59) ?_) | (with_reducible refine stop_app ?_))
   go_roundw
   case rel => exact ⟨4, rv2, z :: vs, by omega, by first | rfl | go_num, HT, HV, BW⟩
   case measure => simp [intOf]
  ·subst h
   have HL : Hid (vs.length = 4) := Lib.hid (by have := congrArg List.length HV.out; rw [LK_len, List.length_map] at this; exact this)
   go_wp2_with (first | (with_reducible refine stop_load (t := 30) ?_) | (with_reducible refine stop_store (t := 30) ?_) | (with_reducible refine stop_load (t := 24) ?_) | (with_reducible refine stop_store (t := 24) ?_) | (with_reducible refine stop_build (t := 30) ?_) | (with_reducible refine stop_bs (t := 59) ?_) | (with_reducible refine stop_app ?_))
   refine (tget_any D rv vs [0, 0, 0, 0] wr HT.out rfl).mono ?_
   rintro e w2 ⟨x, b, rfl, hb, -, -, hxn, x2⟩
   rw [decide_eq_false (fun h => by
    obtain ⟨q, h1, h2⟩ := h
    rw [HL.out] at h1
    rw [idF_ctL HV.out] at h2
    exact LK_0 q h1 h2)] at hb
   subst hb
   have HX := Lib.hid hxn
   replace HT := Lib.hid (HT.out.ext x2)
   replace BW := Lib.hid (Ex.trans BW.out x2)
   clear hxn x2
   go_wp2_with (first | (with_reducible refine stop_load (t := 30) ?_) | (with_reducible refine stop_store (t := 30) ?_) | (with_reducible refine stop_load (t := 24) ?_) | (with_reducible refine stop_store (t := 24) ?_) | (with_reducible refine stop_build (t := 30) ?_) | (with_reducible refine stop_bs (t := 59) ?_) | (with_reducible refine stop_app ?_))
   (with_reducible refine ⟨?_⟩); (with_reducible refine at_any ?_ ?_); (focus go_simp); refine fun K0 hK => st_v _ _ w2.heap.size x rfl rfl rfl HX.out.ok (Bk.new rfl _ _) (by rfl) (fun w3 hd ho => hK _ _ ?_)
   clear hK
   have xx : Ex w2 w3 := ho.below w2.heap.size (Nat.le_refl _) w2 (Ex.alloc w2 _)
   replace HT := Lib.hid (HT.out.ext xx)
   replace BW := Lib.hid (Ex.trans BW.out xx)
   clear xx hd ho HX
   go_wp2_with (first | (with_reducible refine stop_load (t := 30) ?_) | (with_reducible refine stop_store (t := 30) ?_) | (with_reducible refine stop_load (t := 24) ?_) | (with_reducible refine stop_store (t := 24) ?_) | (with_reducible refine stop_build (t := 30) ?_) | (with_reducible refine stop_bs (t := 59) ?_) | (with_reducible refine stop_app ?_))
   (with_reducible refine ⟨?_⟩); (with_reducible refine at_any ?_ ?_); (focus go_simp); refine fun K0 hK => wp_build _ _ rfl (goneVt [1, 0, 0, 0] 1 false).C.toArray (built_gone3 [1, 0, 0, 0] 1 rfl) (hK _ _ ?_)
   clear hK
   go_wp2_with (first | (with_reducible refine stop_load (t := 30) ?_) | (with_reducible refine stop_store (t := 30) ?_) | (with_reducible refine stop_load (t := 24) ?_) | (with_reducible refine stop_store (t := 24) ?_) | (with_reducible refine stop_build (t := 30) ?_) | (with_reducible refine stop_bs (t := 59) ?_) | (with_reducible refine stop_app ?_))
   refine (tput_any D rv vs (goneVt [1, 0, 0, 0] 1 false) w3 HT.out ⟨goneVt_ok rfl (by decide) (by decide), nilB_in _ _⟩).mono ?_
   rintro e w4 hpp
   obtain ⟨rfl, x4⟩ := put_full HV.out rfl hpp
   replace HT := Lib.hid (HT.out.ext x4)
   replace BW := Lib.hid (Ex.trans BW.out x4)
   clear hpp x4
   go_wp2_with (first | (with_reducible refine stop_load (t := 30) ?_) | (with_reducible refine stop_store (t := 30) ?_) | (with_reducible refine stop_load (t := 24) ?_) | (with_reducible refine stop_store (t := 24) ?_) | (with_reducible refine stop_build (t := 30) ?_) | (with_reducible refine stop_bs (t := 59) ?_) | (with_reducible refine stop_app ?_))
   have CL := tlen_any D rv vs w4 HT.out
   rw [HL.out] at CL
   refine CL.mono ?_
   rintro e w5 ⟨rfl, rfl⟩
   clear CL
   go_wp2_with (first | (with_reducible refine stop_load (t := 30) ?_) | (with_reducible refine stop_store (t := 30) ?_) | (with_reducible refine stop_load (t := 24) ?_) | (with_reducible refine stop_store (t := 24) ?_) | (with_reducible refine stop_build (t := 30) ?_) | (with_reducible refine stop_bs (t := 59) ?_) | (with_reducible refine stop_app ?_))
   refine (tall_any D rv vs w4 HT.out).mono ?_
   rintro e w5 ⟨v1, ys, rfl, hvr, hct, x5⟩
   rw [HV.out] at hct
   have HY1 : Hid (ys.map Vt.ct = LK 4) := Lib.hid hct
   obtain ⟨ad1, cap1, rfl, hin⟩ := hvr.inn
   have hyl : ys.length = 4 := by have := congrArg List.length hct; rw [LK_len, List.length_map] at this; exact this
   rw [hyl]
   have HI1 := Lib.hid hin
   have HYL1 := Lib.hid hyl
   replace HT := Lib.hid (HT.out.ext x5)
   replace BW := Lib.hid (Ex.trans BW.out x5)
   clear hvr hct hin hyl x5
   go_wp2_with (first | (with_reducible refine stop_load (t := 30) ?_) | (with_reducible refine stop_store (t := 30) ?_) | (with_reducible refine stop_load (t := 24) ?_) | (with_reducible refine stop_store (t := 24) ?_) | (with_reducible refine stop_build (t := 30) ?_) | (with_reducible refine stop_bs (t := 59) ?_) | (with_reducible refine stop_app ?_))
   obtain ⟨ys1, hys1⟩ : ∃ l, l = ys := ⟨_, rfl⟩
   clear hys1
   refine (tall_any D rv vs w5 HT.out).mono ?_
   rintro e w6 ⟨v2, ys, rfl, hvr, hct, x5⟩
   rw [HV.out] at hct
   have HY2 : Hid (ys.map Vt.ct = LK 4) := Lib.hid hct
   obtain ⟨ad2, cap2, rfl, hin⟩ := hvr.inn
   have hyl : ys.length = 4 := by have := congrArg List.length hct; rw [LK_len, List.length_map] at this; exact this
   rw [hyl]
   have HI2 := Lib.hid hin
   have HYL2 := Lib.hid hyl
   replace HT := Lib.hid (HT.out.ext x5)
   replace BW := Lib.hid (Ex.trans BW.out x5)
   clear hvr hct hin hyl x5
   go_wp2_with (first | (with_reducible refine stop_load (t := 30) ?_) | (with_reducible refine stop_store (t := 30) ?_) | (with_reducible refine stop_load (t := 24) ?_) | (with_reducible refine stop_store (t := 24) ?_) | (with_reducible refine stop_build (t := 30) ?_) | (with_reducible refine stop_bs (t := 59) ?_) | (with_reducible refine stop_app ?_))
   have CI := ids_any ad2 cap2 ys (by rw [HYL2.out]; decide) w6 HI2.out
   have hids : ys.map fst = [6, 7, 8, 9] := by
    have e : ys.map fst = (ys.map Vt.ct).map (fun c => c.id.getD 0 0) := by rw [List.map_map]; rfl
    rw [e, HY2.out]; decide
   rw [hids, HYL2.out] at CI
   refine CI.mono ?_
   rintro e w7 ⟨⟨pad, pcap, pl⟩, rfl, hpl, hpi, x7⟩
   obtain rfl : pl = [6, 7, 8, 9] := hpl
   have hcv := pt_conv _ w7 hpi
   unfold Pt.V
   rw [str6] at hcv
   simp only [List.length_cons, List.length_nil, Nat.zero_add, Nat.reduceAdd] at hcv ⊢
   replace BW := Lib.hid (Ex.trans BW.out x7)
   clear CI hids hpi x7
   go_wp2_with fail
   go_ret
   exact ⟨rfl, BW.out⟩
end Go.Proofs.Ytedljddjmojeeaa
