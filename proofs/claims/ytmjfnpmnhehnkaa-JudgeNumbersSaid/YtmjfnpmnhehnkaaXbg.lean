/- Jd, Jh, Ji -/
import Derived.Test.YtmjfnpmnhehnkaaXbf
import Derived.Great.BuildSlice
import Derived.Deep.Upon
namespace Go.Proofs.Ytmjfnpmnhehnkaa
open Go.RowKit
def Rt.life (r : Rt) : List UInt8 × Int := (r.id, r.gen)
theorem Rt.Ok.lp {r : Rt} (h : r.Ok) : LP r.life := ⟨h.idN, h.gen0, h.gen1⟩
def EndR (r : Rt) : Prop := r.why = 23 ∧ r.left = 0
def TellR (r : Rt) : Prop := r.why = 0 ∧ 0 < r.sec.l.length
def AfterK (l : List Rt) (n : Nat) : Prop := ∃ (i k : Nat) (x y : Rt), i < k ∧ k < n ∧ l[i]? = some x ∧ l[k]? = some y ∧ EndR x ∧ TellR y ∧ x.life = y.life
def AfterP (l : List Rt) : Prop := AfterK l l.length
def EndS (l : List Rt) (k : Nat) (S : List (List UInt8 × Int)) : Prop := ∀ p, p ∈ S ↔ ∃ (i : Nat) (x : Rt), i < k ∧ l[i]? = some x ∧ EndR x ∧ x.life = p
theorem EndS.zero (l : List Rt) : EndS l 0 [] := fun p => ⟨fun h => by simp at h, fun ⟨i, x, h, _⟩ => by omega⟩
theorem EndS.skip {l : List Rt} {k : Nat} {S : List (List UInt8 × Int)} (h : EndS l k S) {x : Rt} (hx : l[k]? = some x) (hn : ¬ EndR x) : EndS l (k + 1) S := fun p => by
 rw [h p]
 constructor
 ·rintro ⟨i, y, h1, h2⟩
  exact ⟨i, y, by omega, h2⟩
 ·rintro ⟨i, y, h1, h2, h3, h4⟩
  rcases Nat.lt_or_ge i k with h5 | h5
  ·exact ⟨i, y, h5, h2, h3, h4⟩
  ·obtain rfl : i = k := by omega
   rw [hx] at h2; cases h2
   exact absurd h3 hn
theorem EndS.add {l : List Rt} {k : Nat} {S : List (List UInt8 × Int)} (h : EndS l k S) {x : Rt} (hx : l[k]? = some x) (hn : EndR x) : EndS l (k + 1) (x.life :: S) := fun p => by
 rw [List.mem_cons, h p]
 constructor
 ·rintro (rfl | ⟨i, y, h1, h2⟩)
  ·exact ⟨k, x, by omega, hx, hn, rfl⟩
  ·exact ⟨i, y, by omega, h2⟩
 ·rintro ⟨i, y, h1, h2, h3, h4⟩
  rcases Nat.lt_or_ge i k with h5 | h5
  ·exact Or.inr ⟨i, y, h5, h2, h3, h4⟩
  ·obtain rfl : i = k := by omega
   rw [hx] at h2; cases h2
   exact Or.inl h4.symm
theorem AfterK.next {l : List Rt} {k : Nat} {S : List (List UInt8 × Int)} (h : ¬ AfterK l k) (hs : EndS l k S) {x : Rt} (hx : l[k]? = some x) (hn : ¬ (x.life ∈ S ∧ TellR x)) : ¬ AfterK l (k + 1) := by
 rintro ⟨i, j, y, z, h1, h2, h3, h4, h5, h6, h7⟩
 rcases Nat.lt_or_ge j k with h8 | h8
 ·exact h ⟨i, j, y, z, h1, h8, h3, h4, h5, h6, h7⟩
 obtain rfl : j = k := by omega
 rw [hx] at h4; cases h4
 exact hn ⟨(hs _).2 ⟨i, y, h1, h3, h5, h7⟩, h6⟩
theorem AfterK.found {l : List Rt} {k : Nat} {S : List (List UInt8 × Int)} (hs : EndS l k S) {x : Rt} (hx : l[k]? = some x) (h1 : x.life ∈ S) (h2 : TellR x) : AfterP l := by
 obtain ⟨i, y, h3, h4, h5, h6⟩ := (hs _).1 h1
 exact ⟨i, k, y, x, h3, (List.getElem?_eq_some_iff.1 hx).1, h4, hx, h5, h2, h6⟩
def AftPost (l : List Rt) (w : World) (e : Ending) (w' : World) : Prop := ∃ z : Bool, e = .returned (.bool z) ∧ (z = true ↔ AfterP l) ∧ Ex w w'
theorem built_e0 : Try.prog.built 157 [] = some #[] := by kernel_rfl
set_option maxHeartbeats 8000000 in
set_option maxRecDepth 100000 in
theorem after_any (ad : Option Addr) (cap : Nat) (l : List Rt) (w : World) (hL : l.length ≤ 9223372036854775807) (hin : Rp.In ad cap l w) : Calls Try.prog 49 #[.slice ad l.length cap] w (AftPost l w) := by
 obtain ⟨n, hn⟩ : ∃ n, n = l.length := ⟨_, rfl⟩
 rw [← hn] at hL
 have HN := Hi hn
 have HIN := Hi hin
 rw [show (Value.slice ad l.length cap) = .slice ad n cap by rw [hn]]
 clear hn hin
 go_enter Try.func49, Try.ntmps49
 go_wp2_with fail
 rw [show (Instr.makeMap 156 none).run Try.prog w = .ok (.map (some w.heap.size)) (w.alloc (.map #[] 0)) from rfl]
 simp only [Result.andThen]
 rw [Oper.upon_value]
 go_wp2_with fail
 have HMP := Hi (bl_new w)
 have B0 : Hid (Ex w (w.alloc (.map #[] 0))) := Hi (Ex.alloc _ _)
 generalize hw1 : w.alloc (.map #[] 0) = w1 at *
 clear hw1
 obtain ⟨b, hb⟩ : ∃ b, b = w.heap.size := ⟨_, rfl⟩
 rw [← hb] at HMP ⊢
 have HB := Hi hb
 clear hb
 go_loopw [11] (fun i wr => ∃ (k : Nat) (S : List (List UInt8 × Int)), k ≤ n ∧ i = .int .i64 k ∧ Hid (BL wr b S) ∧ Hid (EndS l k S) ∧ Hid (¬ AfterK l k) ∧ Hid (Ex w wr)) (fun i _ => n - (intOf i).toNat)
 case atStart => exact ⟨0, [], by omega, rfl, HMP, Hi (EndS.zero l), Hi (fun ⟨i, j, _, _, _, h, _⟩ => by omega), B0⟩
 clear HMP
 obtain ⟨k, S, hk, rfl, HM, HS, HA, BX⟩ := hrel
 by_cases hlt : k < n
 rotate_left
 ·obtain rfl : k = n := by omega
  have q1 : ¬ (k : Int) < (k : Int) := by omega
  have HA2 : Hid (¬ AfterP l) := Hi (by unfold AfterP; rw [← HN.out]; exact HA.out)
  go_wp2_with fail
  go_ret
  exact ⟨false, rfl, ⟨fun h => by (cases h), fun h => absurd h HA2.out⟩, BX.out⟩
 obtain ⟨ab, ofs, rfl, ha, hc⟩ := HIN.out.read (by rw [← HN.out]; omega)
 obtain ⟨x, hx⟩ : ∃ x, l[k]? = some x := ⟨_, List.getElem?_eq_getElem (by rw [← HN.out]; exact hlt)⟩
 have HX := Hi hx
 have XOK := Hi (HIN.out.ins k x hx).ok
 have XR : Hid (wr.rangeAt ab (ofs + k * 10) x.C) := Hi (fun j u hu => (Below.cell (p := ⟨ab, ofs + k * 10 + j, none⟩) BX.out ha).trans (hc k x hx j u hu))
 clear hc hx ha
 have q0 : (0 : Int) ≤ (k : Int) := by omega
 have q1 : (k : Int) < (n : Int) := by omega
 go_wp2_with (first | (with_reducible refine stop_lk ?_) | (with_reducible refine stop_mu ?_) | ((with_reducible refine so1 ?_ ?_); (focus rfl)))
 refine at9 (by go_simp) fun K0 hK => ld_rr _ ab (ofs + k * 10) x XOK.out rfl rfl XR.out (hK _ _ ?_)
 clear hK
 go_wp2_with (first | (with_reducible refine stop_lk ?_) | (with_reducible refine stop_mu ?_) | ((with_reducible refine so1 ?_ ?_); (focus rfl)))
 refine at9 (by go_simp) fun K0 hK => st_r _ _ wr.heap.size x rfl rfl rfl XOK.out (Bk.new rfl _ _) (by rfl) (fun w3 hd ho => hK _ _ ?_)
 clear hK
 have x3 : Ex wr w3 := ho.below wr.heap.size (Nat.le_refl _) wr (Ex.alloc wr _)
 have HD := Hi hd
 obtain ⟨g, hg⟩ : ∃ g, g = wr.heap.size := ⟨_, rfl⟩
 have HBG : Hid (b < g) := Hi (by rw [hg]; exact HM.out.lt)
 replace HM := Hi (HM.out.ext x3)
 rw [← hg] at HD ⊢
 replace BX := Hi (Ex.trans BX.out x3)
 clear hd ho hg x3 XR
 go_wp2_with (first | (with_reducible refine stop_lk ?_) | (with_reducible refine stop_mu ?_) | ((with_reducible refine so1 ?_ ?_); (focus rfl)))
 refine at9 (by go_simp) fun K0 hK => ld_r _ g x rfl rfl HD.out (hK _ _ ?_)
 clear hK
 go_wp2_with (first | (with_reducible refine stop_lk ?_) | (with_reducible refine stop_mu ?_) | ((with_reducible refine so1 ?_ ?_); (focus rfl)))
 refine (of_any x w3 XOK.out).mono ?_
 rintro e w4 ⟨rfl, x4⟩
 replace HD := Hi (HD.out.ext x4)
 replace HM := Hi (HM.out.ext x4)
 replace BX := Hi (Ex.trans BX.out x4)
 clear x4
 go_wp2_with (first | (with_reducible refine stop_lk ?_) | (with_reducible refine stop_mu ?_) | ((with_reducible refine so1 ?_ ?_); (focus rfl)))
 refine at9 (by go_simp) fun K0 hK => wp_llk _ _ rfl b S HM.out x.life XOK.out.lp rfl rfl (hK _ _ ?_)
 clear hK
 obtain ⟨b1, hb1⟩ : ∃ z : Bool, z = (open Classical in decide (x.life ∈ S)) := ⟨_, rfl⟩
 rw [← hb1]
 have HB1 : Hid (b1 = true ↔ x.life ∈ S) := Hi (by rw [hb1]; exact decide_eq_true_iff)
 clear hb1
 obtain ⟨b2, hb2⟩ : ∃ z, z = decide (x.why = 0 ∧ 0 < x.sec.l.length) := ⟨_, rfl⟩
 have CT := Hi (fun w1 => tells_any x w1 XOK.out)
 rw [← hb2] at CT
 have HB2 : Hid (b2 = true ↔ TellR x) := Hi (by rw [hb2]; exact decide_eq_true_iff)
 clear hb2
 go_wp2_with (first | (with_reducible refine stop_lk ?_) | (with_reducible refine stop_mu ?_) | ((with_reducible refine so1 ?_ ?_); (focus rfl)))
 (with_reducible refine ⟨?_⟩)
 have xe := Ex.alloc w4 (.cells #[] 157)
 change wpList _ _ _ _ _ (w4.alloc (.cells #[] 157))
 generalize hw5 : (w4.alloc (.cells #[] 157)) = w5 at *
 replace HD := Hi (HD.out.ext xe)
 replace HM := Hi (HM.out.ext xe)
 replace BX := Hi (Ex.trans BX.out xe)
 clear xe hw5
 cases b1
 ·have HNB : Hid (¬ x.life ∈ S) := Hi (fun h => by have := HB1.out.2 h; cases this)
  have HNX := Hi (AfterK.next HA.out HS.out HX.out (fun h => HNB.out h.1))
  obtain ⟨a0, _, a6, _, _, _⟩ := HD.out.cells
  obtain ⟨y, hy⟩ : ∃ y, y = x.why := ⟨_, rfl⟩
  obtain ⟨z, hz⟩ : ∃ y, y = x.left := ⟨_, rfl⟩
  have HEE : Hid (EndR x ↔ (y = 23 ∧ z = 0)) := Hi (by rw [hy, hz]; exact Iff.rfl)
  rw [← hy] at a0
  rw [← hz] at a6
  clear hy hz CT HB1 HB2
  by_cases hy : y = 23
  rotate_left
  ·have HE : Hid (¬ EndR x) := Hi (fun h => hy (HEE.out.1 h).1)
   clear HEE
   (with_reducible refine at_not ?_ ?_); (focus go_simp)
   go_wp2_with fail
   go_roundw
   case rel => exact ⟨k + 1, S, by omega, by go_num, HM, Hi (HS.out.skip HX.out HE.out), HNX, BX⟩
   case measure => simp [intOf]; omega
  subst hy
  by_cases hz : z = 0
  rotate_left
  ·have HE : Hid (¬ EndR x) := Hi (fun h => hz (HEE.out.1 h).2)
   clear HEE
   (with_reducible refine at_not ?_ ?_); (focus go_simp)
   go_wp2_with fail
   go_roundw
   case rel => exact ⟨k + 1, S, by omega, by go_num, HM, Hi (HS.out.skip HX.out HE.out), HNX, BX⟩
   case measure => simp [intOf]; omega
  subst hz
  have HE : Hid (EndR x) := Hi (HEE.out.2 ⟨rfl, rfl⟩)
  clear HEE
  (with_reducible refine at_not ?_ ?_); (focus go_simp)
  go_wp2_with (first | (with_reducible refine stop_lk ?_) | (with_reducible refine stop_mu ?_) | ((with_reducible refine so1 ?_ ?_); (focus rfl)))
  clear a0 a6
  refine at9 (by go_simp) fun K0 hK => ld_r _ g x rfl rfl HD.out (hK _ _ ?_)
  clear hK
  go_wp2_with (first | (with_reducible refine stop_lk ?_) | (with_reducible refine stop_mu ?_) | ((with_reducible refine so1 ?_ ?_); (focus rfl)))
  refine (of_any x _ XOK.out).mono ?_
  rintro e w6 ⟨rfl, x6⟩
  replace HM := Hi (HM.out.ext x6)
  replace BX := Hi (Ex.trans BX.out x6)
  clear x6
  go_wp2_with (first | (with_reducible refine stop_lk ?_) | (with_reducible refine stop_mu ?_) | ((with_reducible refine so1 ?_ ?_); (focus rfl)))
  refine at9 (by go_simp) fun K0 hK => wp_build _ _ rfl _ built_e0 (hK _ _ ?_)
  clear hK
  go_wp2_with (first | (with_reducible refine stop_lk ?_) | (with_reducible refine stop_mu ?_) | ((with_reducible refine so1 ?_ ?_); (focus rfl)))
  refine at9 (by go_simp) fun K0 hK => wp_lup _ _ _ rfl b S HM.out x.life XOK.out.lp rfl rfl rfl (fun w7 hm ho => hK _ _ ?_)
  clear hK
  have BX2 : Hid (Ex w w7) := Hi (ho.below w.heap.size (by rw [← HB.out]; exact Nat.le_refl _) w BX.out)
  have HM2 := Hi hm
  clear hm ho
  go_wp2_with fail
  go_roundw
  case rel => exact ⟨k + 1, x.life :: S, by omega, by go_num, HM2, Hi (HS.out.add HX.out HE.out), HNX, BX2⟩
  case measure => simp [intOf]; omega
 have HYB : Hid (x.life ∈ S) := Hi (HB1.out.1 rfl)
 (with_reducible refine at_any ?_ ?_); (focus go_simp); refine fun K0 hK => ld_r _ g x rfl rfl HD.out (hK _ _ ?_)
 clear hK
 go_wp2_with (first | (with_reducible refine stop_lk ?_) | (with_reducible refine stop_mu ?_) | ((with_reducible refine so1 ?_ ?_); (focus rfl)))
 refine (CT.out _).mono ?_
 rintro e w8 ⟨rfl, x8⟩
 replace HD := Hi (HD.out.ext x8)
 replace HM := Hi (HM.out.ext x8)
 replace BX := Hi (Ex.trans BX.out x8)
 clear x8
 cases b2
 rotate_left
 ·have HFD : Hid (AfterP l) := Hi (AfterK.found HS.out HX.out HYB.out (HB2.out.1 rfl))
  go_wp2_with fail
  go_ret
  exact ⟨true, rfl, ⟨fun _ => HFD.out, fun _ => rfl⟩, BX.out⟩
 have HNB : Hid (¬ TellR x) := Hi (fun h => by have := HB2.out.2 h; cases this)
 have HNX := Hi (AfterK.next HA.out HS.out HX.out (fun h => HNB.out h.2))
 obtain ⟨a0, _, a6, _, _, _⟩ := HD.out.cells
 obtain ⟨y, hy⟩ : ∃ y, y = x.why := ⟨_, rfl⟩
 obtain ⟨z, hz⟩ : ∃ y, y = x.left := ⟨_, rfl⟩
 have HEE : Hid (EndR x ↔ (y = 23 ∧ z = 0)) := Hi (by rw [hy, hz]; exact Iff.rfl)
 rw [← hy] at a0
 rw [← hz] at a6
 clear hy hz CT HB1 HB2
 by_cases hy : y = 23
 rotate_left
 ·have HE : Hid (¬ EndR x) := Hi (fun h => hy (HEE.out.1 h).1)
  clear HEE
  go_wp2_with fail
  go_roundw
  case rel => exact ⟨k + 1, S, by omega, by go_num, HM, Hi (HS.out.skip HX.out HE.out), HNX, BX⟩
  case measure => simp [intOf]; omega
 subst hy
 by_cases hz : z = 0
 rotate_left
 ·have HE : Hid (¬ EndR x) := Hi (fun h => hz (HEE.out.1 h).2)
  clear HEE
  go_wp2_with fail
  go_roundw
  case rel => exact ⟨k + 1, S, by omega, by go_num, HM, Hi (HS.out.skip HX.out HE.out), HNX, BX⟩
  case measure => simp [intOf]; omega
 subst hz
 have HE : Hid (EndR x) := Hi (HEE.out.2 ⟨rfl, rfl⟩)
 clear HEE
 go_wp2_with (first | (with_reducible refine stop_lk ?_) | (with_reducible refine stop_mu ?_) | ((with_reducible refine so1 ?_ ?_); (focus rfl)))
 clear a0 a6
 refine at9 (by go_simp) fun K0 hK => ld_r _ g x rfl rfl HD.out (hK _ _ ?_)
 clear hK
 go_wp2_with (first | (with_reducible refine stop_lk ?_) | (with_reducible refine stop_mu ?_) | ((with_reducible refine so1 ?_ ?_); (focus rfl)))
 refine (of_any x _ XOK.out).mono ?_
 rintro e w6 ⟨rfl, x6⟩
 replace HM := Hi (HM.out.ext x6)
 replace BX := Hi (Ex.trans BX.out x6)
 clear x6
 go_wp2_with (first | (with_reducible refine stop_lk ?_) | (with_reducible refine stop_mu ?_) | ((with_reducible refine so1 ?_ ?_); (focus rfl)))
 refine at9 (by go_simp) fun K0 hK => wp_build _ _ rfl _ built_e0 (hK _ _ ?_)
 clear hK
 go_wp2_with (first | (with_reducible refine stop_lk ?_) | (with_reducible refine stop_mu ?_) | ((with_reducible refine so1 ?_ ?_); (focus rfl)))
 refine at9 (by go_simp) fun K0 hK => wp_lup _ _ _ rfl b S HM.out x.life XOK.out.lp rfl rfl rfl (fun w7 hm ho => hK _ _ ?_)
 clear hK
 have BX2 : Hid (Ex w w7) := Hi (ho.below w.heap.size (by rw [← HB.out]; exact Nat.le_refl _) w BX.out)
 have HM2 := Hi hm
 clear hm ho
 go_wp2_with fail
 go_roundw
 case rel => exact ⟨k + 1, x.life :: S, by omega, by go_num, HM2, Hi (HS.out.add HX.out HE.out), HNX, BX2⟩
 case measure => simp [intOf]; omega
end Go.Proofs.Ytmjfnpmnhehnkaa
namespace Go.Proofs.Ytmjfnpmnhehnkaa
open Go.RowKit
section
variable {α : Type} (C : α → List Value) (sz : Nat)
theorem gflat_len : ∀ (l : List α) (_ : ∀ x ∈ l, (C x).length = sz), (l.flatMap C).length = l.length * sz
 | [], _ => by simp
 | x :: r, H => by rw [List.flatMap_cons, List.length_append, gflat_len r (fun y hy => H y (List.mem_cons_of_mem _ hy)), H x List.mem_cons_self, List.length_cons, Nat.add_mul, Nat.one_mul]; omega
theorem gflat_at : ∀ (l : List α) (_ : ∀ x ∈ l, (C x).length = sz) (i j : Nat) (x : α), l[i]? = some x → j < sz → (l.flatMap C)[i * sz + j]? = (C x)[j]?
 | [], _, _, _, _, h, _ => by simp at h
 | y :: r, H, 0, j, x, h, hj => by
  obtain rfl : y = x := by simpa using h
  rw [List.flatMap_cons, Nat.zero_mul, Nat.zero_add, List.getElem?_append_left (by rw [H y List.mem_cons_self]; exact hj)]
 | y :: r, H, i + 1, j, x, h, hj => by
  have hy := H y List.mem_cons_self
  have e : (i + 1) * sz + j = sz + (i * sz + j) := by rw [Nat.add_mul, Nat.one_mul]; omega
  rw [List.flatMap_cons, e, List.getElem?_append_right (by rw [hy]; omega), hy, Nat.add_sub_cancel_left]
  exact gflat_at r (fun z hz => H z (List.mem_cons_of_mem _ hz)) i j x (by simpa using h) hj
theorem gflat_rd {w : World} {ad : Option Addr} {l : List α} (hp : 0 < sz) (H : ∀ x ∈ l, (C x).length = sz) (h : 0 < l.length → ∃ a o, ad = some ⟨a, o, none⟩ ∧ a < w.heap.size ∧ ∀ (i : Nat) (x : α), l[i]? = some x → w.rangeAt a (o + i * sz) (C x)) : Rd w ad l.length sz (l.flatMap C) := by
 refine ⟨gflat_len C sz l H, fun h0 => ?_⟩
 obtain ⟨a, o, e, hl, hc⟩ := h h0
 refine ⟨a, o, e, hl, fun j u hu => ?_⟩
 have hj := (List.getElem?_eq_some_iff.1 hu).1
 rw [gflat_len C sz l H] at hj
 have hi : j / sz < l.length := Nat.div_lt_of_lt_mul (by rw [Nat.mul_comm]; exact hj)
 have hm := Nat.mod_lt j hp
 have hx : l[j / sz]? = some l[j / sz] := List.getElem?_eq_getElem hi
 have e2 : j / sz * sz + j % sz = j := by rw [Nat.mul_comm]; exact Nat.div_add_mod j sz
 rw [← e2, gflat_at C sz l H _ _ _ hx hm] at hu
 have := hc _ _ hx _ _ hu
 rw [Nat.add_assoc, e2] at this; exact this
theorem gflat_back {w : World} {ad : Option Addr} {l : List α} (H : ∀ x ∈ l, (C x).length = sz) (h : Rd w ad l.length sz (l.flatMap C)) : 0 < l.length → ∃ a o, ad = some ⟨a, o, none⟩ ∧ a < w.heap.size ∧ ∀ (i : Nat) (x : α), l[i]? = some x → w.rangeAt a (o + i * sz) (C x) := fun h0 => by
 obtain ⟨a, o, e, hl, hc⟩ := h.read h0
 refine ⟨a, o, e, hl, fun i x hx j u hu => ?_⟩
 have hj : j < sz := by
  have := (List.getElem?_eq_some_iff.1 hu).1
  rw [H x (List.mem_of_getElem? hx)] at this; exact this
 rw [Nat.add_assoc]
 exact hc _ _ (by rw [gflat_at C sz l H i j x hx hj]; exact hu)
theorem gflat_one {l : List α} (h1 : ∀ x ∈ l, ∀ u ∈ C x, u.oneCell' = true) : ∀ u ∈ l.flatMap C, u.oneCell' = true := fun u hu => by
 obtain ⟨x, hx, h2⟩ := List.mem_flatMap.1 hu
 exact h1 x hx u h2
end
theorem Rt.C_one (x : Rt) : ∀ u ∈ x.C, u.oneCell' = true := by
 have := x.ones
 rw [List.all_toArray] at this
 exact List.all_eq_true.1 this
theorem Rp.In.okl {ad : Option Addr} {cap : Nat} {l : List Rt} {w : World} (h : Rp.In ad cap l w) : ∀ x ∈ l, x.C.length = 10 := fun x hx => by
 obtain ⟨i, hi, e⟩ := List.getElem_of_mem hx
 exact Rt.len (h.ins i x (by rw [List.getElem?_eq_getElem hi, e])).ok
theorem Rp.In.rd {ad : Option Addr} {cap : Nat} {l : List Rt} {w : World} (h : Rp.In ad cap l w) : Rd w ad l.length 10 (l.flatMap Rt.C) := gflat_rd Rt.C 10 (by decide) h.okl h.read
theorem Rp.of_own {w : World} {B : Nat} {v : Value} {l : List Rt} {n : Nat} (hn : n = l.length) (h : w.ownsRow B 83 10 v n (l.flatMap Rt.C)) (hi : ∀ x ∈ l, RI w x) : ∃ ad cap, v = .slice ad l.length cap ∧ Rp.In ad cap l w := by
 subst hn
 obtain ⟨ad, cap, e, hnil, hc, _, hr⟩ := own_rd h
 have H : ∀ x ∈ l, x.C.length = 10 := fun x hx => Rt.len (hi x hx).ok
 exact ⟨ad, cap, e, hc, hnil, fun i x hx => hi x (List.mem_of_getElem? hx), gflat_back Rt.C 10 H hr⟩
theorem Try.infoRt : (Try.prog.info? 83).map (fun i => (i.zero, i.size, i.bytes)) = some (some zeroRt.V, 10, 72) := by kernel_rfl
theorem wp_bs1 {o : Oper} {a : Act} {w : World} {K : Act → World → Prop} {Q : Exit → Act → World → Prop} (t e : TypeId) (z : Value) (sz bytes : Nat) (y : Operand) (C : List Value) (ho : o.op = .buildSlice t 1 #[(0, y)]) (hu : Try.prog.underlying t = some (.slice e))
  (hinfo : (Try.prog.info? e).map (fun i => (i.zero, i.size, i.bytes)) = some (some z, sz, bytes)) (hz : z.cells.size = sz) (hp : 0 < sz) (hs : sz ≤ 1000) (hC : C.length = sz) (hy : a.eval y = .agg C.toArray)
  (hk : K (a.put o.dst (.slice (some ⟨w.heap.size, 0, none⟩) 1 1)) (w.alloc (.cells C.toArray e))) : o.wp Try.prog a w K Q := by
 obtain ⟨i0, hi0, hz0, hz1, hz2⟩ := info_parts hinfo
 refine wp_buildSlice t e 1 #[(0, y)] ho C.toArray i0 z hu hi0 hz0 (by rw [hz1]; omega) (by rw [hz1]; omega) ?_ hk
 have h := Great.fill_whole (s := sz) hp [.agg C.toArray] ((Array.range (1 * sz)).map (z.cells[· % z.cells.size]!)) (fun v hv => by rw [List.mem_singleton.1 hv]; show C.toArray.size = sz; simpa using hC) (by simp)
 rw [hz1]
 have e1 : ((#[(0, y)] : Array (Nat × Operand)).map fun x => (x.1, a.eval x.2)).toList = ([Value.agg C.toArray].zipIdx 0).map fun x => (x.2, x.1) := by simp [hy]
 refine (congrArg _ e1).trans (h.trans ?_)
 simp [Value.cells]
theorem wp_full {o : Oper} {a : Act} {w : World} {K : Act → World → Prop} {Q : Exit → Act → World → Prop} (s x : Operand) (t e : TypeId) (z : Value) (sz bytes : Nat)
  (hop : o.op = .call { callee := .builtin .append, args := #[s, x], argTypes := #[t, t] }) (hu : Try.prog.underlying t = some (.slice e))
  (hinfo : (Try.prog.info? e).map (fun i => (i.zero, i.size, i.bytes)) = some (some z, sz, bytes)) (hz : z.cells.size = sz) (hp : 0 < sz)
  (B : Nat) (hB : B ≤ w.heap.size) (ad0 : Option Addr) (n : Nat) (xs : List Value) (hs : a.eval s = .slice ad0 n n) (hrs : Rd w ad0 n sz xs) (hn0 : ad0 = none → n = 0)
  (A : Addr) (m c : Nat) (ys : List Value) (hx : a.eval x = .slice (some A) m c) (hrd : Rd w (some A) m sz ys) (hm : 0 < m) (h1 : ∀ u ∈ ys, u.oneCell' = true)
  (hN : n + m ≤ 9223372036854775807) (hby : (n + m) * bytes ≤ 140737488355328)
  (h : ∀ v' w', w'.ownsRow B e sz v' (n + m) (xs ++ ys) → Ex w w' → K (a.put o.dst v') w') : o.wp Try.prog a w K Q := by
 obtain ⟨i0, hi0, hz0, hz1, hz2⟩ := info_parts hinfo
 have key : ∃ v' w', (Builtin.append_ #[t, t] o.type #[.slice ad0 n n, .slice (some A) m c]).run Try.prog w = .ok v' w' ∧ w'.ownsRow B e sz v' (n + m) (xs ++ ys) ∧ w.grownBy w' none := by
  cases had : ad0 with
  | none =>
   obtain rfl := hn0 had
   obtain rfl : xs = [] := List.eq_nil_of_length_eq_zero (by rw [hrs.len]; exact Nat.zero_mul _)
   obtain ⟨v', w', hrun, r1, r2, _⟩ := run_append_own (P := Try.prog) w B t o.type e i0 z sz bytes hu hi0 hz0 hz1 hz2 hz hp (.slice none 0 0) 0 [] (World.ownsRow_nil _ _ _ _) A m c ys hrd.len (hrd.at A rfl) h1 hN hby hB
   exact ⟨v', w', hrun, r1, r2⟩
  | some b =>
   obtain ⟨v', w', hrun, r1, r2⟩ := run_append_arg_grows (P := Try.prog) w t o.type e i0 z sz bytes hu hi0 hz0 hz1 hz2 hz hp b n n xs hrs.len (hrs.at b had) A m c ys hrd.len (hrd.at A rfl) (by omega) (by unfold maxLen; omega) hby
   exact ⟨v', w', hrun, rown_less r1 hB, r2⟩
 obtain ⟨v', w', hrun, r1, r2⟩ := key
 unfold Oper.wp
 simp [execOp, hop, resolve, invoke, builtin, hs, hx, hrun, Result.andThen]
 exact h v' w' r1 ((Below.refl w.heap.size w).grown r2 (Nat.le_refl _) (fun k hk => by cases hk))
end Go.Proofs.Ytmjfnpmnhehnkaa
namespace Go.Proofs.Ytmjfnpmnhehnkaa
open Go.RowKit
def z16x : List UInt8 := [0, 0, 0, 0, 0, 0, 0, 0, 0, 0, 0, 0, 0, 0, 0, 0]
def k25q : Qt := ⟨2, [1, 0, 0, 0], z16x, nilB, 0, z16x, z16x, 0, 0⟩
def k25r : Rt := ⟨22, [1, 0, 0, 0], 0, 0, nilB, 0, 0⟩
def k25d : Dt := ⟨0, k25q, zeroRt⟩
def k25e : Dt := ⟨0, k25q, k25r⟩
theorem k25q_ok : k25q.Ok := ⟨by decide, by decide, rfl, rfl, by decide, by decide, rfl, rfl, by decide, by decide, by decide, by decide⟩
theorem k25r_ok : k25r.Ok := repRt_ok (by decide) (by decide) rfl (by decide) (by decide) (by decide) (by decide)
theorem k25i : Try.prog.built 32 [(0, .int .u8 1)] = some (Lib.byteCells [1, 0, 0, 0]).toArray := by kernel_rfl
theorem k25j : Try.prog.built 32 [] = some (Lib.byteCells [0, 0, 0, 0]).toArray := by kernel_rfl
theorem k25b : Try.prog.built 86 [(0, .int .i64 2), (1, digV [1, 0, 0, 0])] = some k25q.C.toArray := by kernel_rfl
theorem k25c : Try.prog.built 149 [(1, k25q.V)] = some k25d.C.toArray := by kernel_rfl
theorem k25f : Try.prog.built 83 [(0, .int .i64 22), (1, digV [1, 0, 0, 0])] = some k25r.C.toArray := by kernel_rfl
theorem k25g : Try.prog.built 149 [(1, k25q.V), (2, k25r.V)] = some k25e.C.toArray := by kernel_rfl
theorem k25s : PStep [] k25q.ct k25r.ct [] :=
 Or.inr ⟨by decide, zeroVt, -1, Or.inl ⟨rfl, rfl, fun y h => by simp at h⟩, Or.inl rfl, Or.inl ⟨by decide +kernel, by decide +kernel, rfl⟩⟩
theorem k25ch (x : Dt) (hx : x.q = k25q) : Chain [x] (fun _ => []) (fun _ => k25r.ct) := ⟨rfl, fun k y hy => by
 have : y = x := by
  cases k with
  | zero => simpa using hy.symm
  | succ k => simp at hy
 rw [this, hx]; exact k25s⟩
theorem k25ch0 : Chain [] (fun _ => []) (fun _ => k25r.ct) := ⟨rfl, fun k y hy => by simp at hy⟩
theorem first0 {n : Int} (h : FirstBad [] (fun _ => k25r.ct) n) : n = -1 := by
 rcases h with ⟨h, _⟩ | ⟨k, x, _, h, _⟩
 ·exact h
 simp at h
theorem first1 {n : Int} (h : FirstBad [k25d] (fun _ => k25r.ct) n) : n = 0 := by
 rcases h with ⟨_, h⟩ | ⟨k, x, h1, h2, _⟩
 ·have := h 0 k25d (by decide) rfl
  exact absurd this (by decide +kernel)
 cases k with
 | zero => exact h1
 | succ k => simp at h2
theorem first2 {n : Int} (h : FirstBad [k25e] (fun _ => k25r.ct) n) : n = -1 := by
 rcases h with ⟨h, _⟩ | ⟨k, x, h1, h2, h3, _⟩
 ·exact h
 cases k with
 | zero =>
  have : x = k25e := by simpa using h2.symm
  rw [this] at h3
  exact absurd rfl h3
 | succ k => simp at h2
theorem Try.infoDt : (Try.prog.info? 149).map (fun i => (i.zero, i.size, i.bytes)) = some (some (Dt.V ⟨0, ⟨0, [0, 0, 0, 0], z16x, nilB, 0, z16x, z16x, 0, 0⟩, zeroRt⟩), 68, 192) := by kernel_rfl
theorem dp_one {w : World} {g : Nat} {x : Dt} (h : Bk w g 149 x.C.toArray) (hi : DI9 w x) : Dp.In (some ⟨g, 0, none⟩) 1 [x] w := by
 refine ⟨Nat.le_refl _, (fun h => by cases h), fun i y hy => ?_, fun _ => ⟨g, 0, rfl, h.lt, fun i y hy j u hu => ?_⟩⟩
 ·have : y = x := by
   cases i with
   | zero => simpa using hy.symm
   | succ k => simp at hy
  rw [this]; exact hi
 have hi0 : i = 0 ∧ y = x := by
  cases i with
  | zero => exact ⟨rfl, by simpa using hy.symm⟩
  | succ k => simp at hy
 obtain ⟨rfl, rfl⟩ := hi0
 rw [h.cell]; simpa using hu
set_option maxHeartbeats 8000000 in
set_option maxRecDepth 100000 in
theorem known25 (w : World) : Calls Try.prog 45 #[] w fun e w' => e = .returned (.bool true) ∧ Ex w w' := by
 go_enter Try.func45, Try.ntmps45
 go_wp2_with (first | ((with_reducible refine so0 ?_ ?_); (focus rfl)) | (with_reducible refine stop_bs (t := 96) ?_))
 refine at9 (by go_simp) fun K0 hK => wp_build _ _ rfl _ k25i (hK _ _ ?_)
 clear hK
 go_wp2_with (first | ((with_reducible refine so0 ?_ ?_); (focus rfl)) | (with_reducible refine stop_bs (t := 96) ?_))
 refine at9 (by go_simp) fun K0 hK => wp_build _ _ rfl _ k25b (hK _ _ ?_)
 clear hK
 go_wp2_with (first | ((with_reducible refine so0 ?_ ?_); (focus rfl)) | (with_reducible refine stop_bs (t := 96) ?_))
 refine at9 (by go_simp) fun K0 hK => st_q _ _ w.heap.size k25q rfl rfl rfl k25q_ok (Bk.new rfl _ _) (by rfl) (fun w3 hd ho => hK _ _ ?_)
 clear hK
 have BX : Hid (Ex w w3) := Hi (ho.below w.heap.size (Nat.le_refl _) w (Ex.alloc w _))
 have HD := Hi hd
 obtain ⟨g, hg⟩ : ∃ g, g = w.heap.size := ⟨_, rfl⟩
 rw [← hg] at HD ⊢
 clear hd ho hg
 go_wp2_with (first | ((with_reducible refine so0 ?_ ?_); (focus rfl)) | (with_reducible refine stop_bs (t := 96) ?_))
 refine (check_any none 0 [] _ _ w3 (by decide) (Dp.nil9 w3) k25ch0).mono ?_
 rintro e w4 ⟨n, rfl, h1, x4⟩
 obtain rfl := first0 h1
 clear h1
 replace HD := Hi (HD.out.ext x4)
 replace BX := Hi (Ex.trans BX.out x4)
 clear x4
 go_wp2_with (first | ((with_reducible refine so0 ?_ ?_); (focus rfl)) | (with_reducible refine stop_bs (t := 96) ?_))
 refine at9 (by go_simp) fun K0 hK => ld_q _ g k25q rfl rfl HD.out (hK _ _ ?_)
 clear hK
 go_wp2_with (first | ((with_reducible refine so0 ?_ ?_); (focus rfl)) | (with_reducible refine stop_bs (t := 96) ?_))
 refine at9 (by go_simp) fun K0 hK => wp_build _ _ rfl _ k25c (hK _ _ ?_)
 clear hK
 go_wp2_with (first | ((with_reducible refine so0 ?_ ?_); (focus rfl)) | (with_reducible refine stop_bs (t := 96) ?_))
 refine at9 (by go_simp) fun K0 hK => wp_bs1 96 149 _ 68 192 _ k25d.C rfl Try.underlying96 Try.infoDt (by rfl) (by decide) (by decide) (Dt.len k25q_ok zeroRt_ok) rfl (hK _ _ ?_)
 clear hK
 have xa := Ex.alloc w4 (.cells k25d.C.toArray 149)
 have hb := Bk.new (g := w4.heap.size) (w := w4) rfl 149 k25d.C.toArray
 generalize hw9 : w4.alloc (.cells k25d.C.toArray 149) = w4a at *
 generalize w4.heap.size = gw4 at *
 have NB := Hi hb
 clear hw9 hb
 replace HD := Hi (HD.out.ext xa)
 replace BX := Hi (Ex.trans BX.out xa)
 clear xa
 go_wp2_with (first | ((with_reducible refine so0 ?_ ?_); (focus rfl)) | (with_reducible refine stop_bs (t := 96) ?_))
 refine (check_any _ 1 [k25d] _ _ _ (by decide) (dp_one NB.out ⟨⟨k25q_ok, nilB_in _ _⟩, ⟨zeroRt_ok, nilB_in _ _⟩⟩) (k25ch _ rfl)).mono ?_
 rintro e w5 ⟨n, rfl, h1, x5⟩
 obtain rfl := first1 h1
 clear h1 NB
 replace HD := Hi (HD.out.ext x5)
 replace BX := Hi (Ex.trans BX.out x5)
 clear x5
 go_wp2_with (first | ((with_reducible refine so0 ?_ ?_); (focus rfl)) | (with_reducible refine stop_bs (t := 96) ?_))
 refine at9 (by go_simp) fun K0 hK => ld_q _ g k25q rfl rfl HD.out (hK _ _ ?_)
 clear hK
 go_wp2_with (first | ((with_reducible refine so0 ?_ ?_); (focus rfl)) | (with_reducible refine stop_bs (t := 96) ?_))
 refine at9 (by go_simp) fun K0 hK => wp_build _ _ rfl _ k25i (hK _ _ ?_)
 clear hK
 go_wp2_with (first | ((with_reducible refine so0 ?_ ?_); (focus rfl)) | (with_reducible refine stop_bs (t := 96) ?_))
 refine at9 (by go_simp) fun K0 hK => wp_build _ _ rfl _ k25f (hK _ _ ?_)
 clear hK
 go_wp2_with (first | ((with_reducible refine so0 ?_ ?_); (focus rfl)) | (with_reducible refine stop_bs (t := 96) ?_))
 refine at9 (by go_simp) fun K0 hK => wp_build _ _ rfl _ k25g (hK _ _ ?_)
 clear hK
 go_wp2_with (first | ((with_reducible refine so0 ?_ ?_); (focus rfl)) | (with_reducible refine stop_bs (t := 96) ?_))
 refine at9 (by go_simp) fun K0 hK => wp_bs1 96 149 _ 68 192 _ k25e.C rfl Try.underlying96 Try.infoDt (by rfl) (by decide) (by decide) (Dt.len k25q_ok k25r_ok) rfl (hK _ _ ?_)
 clear hK
 have xa := Ex.alloc w5 (.cells k25e.C.toArray 149)
 have hb := Bk.new (g := w5.heap.size) (w := w5) rfl 149 k25e.C.toArray
 generalize hw9 : w5.alloc (.cells k25e.C.toArray 149) = w5a at *
 generalize w5.heap.size = gw5 at *
 have NB := Hi hb
 clear hw9 hb
 replace HD := Hi (HD.out.ext xa)
 replace BX := Hi (Ex.trans BX.out xa)
 clear xa
 go_wp2_with (first | ((with_reducible refine so0 ?_ ?_); (focus rfl)) | (with_reducible refine stop_bs (t := 96) ?_))
 refine (check_any _ 1 [k25e] _ _ _ (by decide) (dp_one NB.out ⟨⟨k25q_ok, nilB_in _ _⟩, ⟨k25r_ok, nilB_in _ _⟩⟩) (k25ch _ rfl)).mono ?_
 rintro e w6 ⟨n, rfl, h1, x6⟩
 obtain rfl := first2 h1
 clear h1 NB
 replace HD := Hi (HD.out.ext x6)
 replace BX := Hi (Ex.trans BX.out x6)
 clear x6
 go_wp2_with (first | ((with_reducible refine so0 ?_ ?_); (focus rfl)) | (with_reducible refine stop_bs (t := 96) ?_))
 refine at9 (by go_simp) fun K0 hK => wp_build _ _ rfl _ k25j (hK _ _ ?_)
 clear hK
 go_wp2_with (first | ((with_reducible refine so0 ?_ ?_); (focus rfl)) | (with_reducible refine stop_bs (t := 96) ?_))
 refine (wrongs_any [0, 0, 0, 0] 0 none 0 [] w6 rfl (by decide) (Rp.nil9 w6)).mono ?_
 rintro e w7 ⟨rfl, x7⟩
 replace HD := Hi (HD.out.ext x7)
 replace BX := Hi (Ex.trans BX.out x7)
 clear x7
 go_wp2_with (first | ((with_reducible refine so0 ?_ ?_); (focus rfl)) | (with_reducible refine stop_bs (t := 96) ?_))
 refine (after_any none 0 [] w7 (by decide) (Rp.nil9 w7)).mono ?_
 rintro e w8 ⟨z, rfl, h1, x8⟩
 have hz : z = false := Bool.eq_false_iff.2 (fun h => by obtain ⟨i, k, x, y, _, h2, _⟩ := h1.1 h; exact absurd h2 (Nat.not_lt_zero k))
 subst hz
 clear h1
 replace HD := Hi (HD.out.ext x8)
 replace BX := Hi (Ex.trans BX.out x8)
 clear x8
 go_wp2_with fail
 go_ret
 exact ⟨rfl, BX.out⟩
end Go.Proofs.Ytmjfnpmnhehnkaa
