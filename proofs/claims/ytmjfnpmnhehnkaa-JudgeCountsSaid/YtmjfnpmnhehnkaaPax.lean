/- Jj -/
import Derived.Test.YtmjfnpmnhehnkaaPaw
import Derived.Deep.DeepCutAuto
namespace Go.Proofs.Ytmjfnpmnhehnkaa
open Go.RowKit
theorem Try.sl98 : Try.prog.underlying 98 = some (.slice (Try.prog.elem 98)) := by kernel_rfl
theorem Try.sz98 (w : World) : (sizeOf (Try.prog.elem 98)).run Try.prog w = .ok 10 w := by kernel_rfl
theorem sliced_z9 (ad : Option Addr) (k cap sz : Nat) : sliced ad 0 k cap sz = .slice ad k cap := by simp [sliced, go_sem]
theorem AfterP.left {a b : List Rt} (h : AfterP a) : AfterP (a ++ b) := by
  obtain ⟨i, k, x, y, h1, h2, h3, h4, h5, h6, h7⟩ := h
  exact ⟨i, k, x, y, h1, by rw [List.length_append]; omega, by rw [List.getElem?_append_left (by omega)]; exact h3, by rw [List.getElem?_append_left h2]; exact h4, h5, h6, h7⟩
theorem AfterP.right {a b : List Rt} (h : AfterP b) : AfterP (a ++ b) := by
  obtain ⟨i, k, x, y, h1, h2, h3, h4, h5, h6, h7⟩ := h
  exact ⟨a.length + i, a.length + k, x, y, by omega, by rw [List.length_append]; omega, by rw [List.getElem?_append_right (by omega), Nat.add_sub_cancel_left]; exact h3, by rw [List.getElem?_append_right (by omega), Nat.add_sub_cancel_left]; exact h4, h5, h6, h7⟩
theorem AfterP.ends {a b : List Rt} {e t : Rt} (he : EndR e) (ht : TellR t) (hl : e.life = t.life) : AfterP ((a ++ [e]) ++ (b ++ [t])) := by
  refine ⟨a.length, a.length + 1 + b.length, e, t, by omega, by simp only [List.length_append, List.length_cons, List.length_nil]; omega, ?_, ?_, he, ht, hl⟩
  · rw [List.getElem?_append_left (by simp), List.getElem?_append_right (Nat.le_refl _)]; simp
  rw [List.getElem?_append_right (by simp only [List.length_append, List.length_cons, List.length_nil]; omega), List.getElem?_append_right (by simp only [List.length_append, List.length_cons, List.length_nil]; omega)]
  have : a.length + 1 + b.length - (a ++ [e]).length - b.length = 0 := by simp only [List.length_append, List.length_cons, List.length_nil]; omega
  rw [this]; rfl
noncomputable def aftB (l : List Rt) : Bool := @decide (AfterP l) (Classical.propDecidable _)
theorem aftB_iff (l : List Rt) : aftB l = true ↔ AfterP l := @decide_eq_true_iff _ (Classical.propDecidable _)
theorem aft_any (ad : Option Addr) (cap : Nat) (l : List Rt) (w : World) (hL : l.length ≤ 9223372036854775807) (hin : Rp.In ad cap l w) : Calls Try.prog 49 #[.slice ad l.length cap] w fun e w' => e = .returned (.bool (aftB l)) ∧ Ex w w' := by
  refine (after_any ad cap l w hL hin).mono ?_
  rintro e w' ⟨z, rfl, h1, h2⟩
  have : z = aftB l := Bool.eq_iff_iff.2 (h1.trans (aftB_iff l).symm)
  exact ⟨by rw [this], h2⟩
theorem own_grown {w0 w w' : World} {B : Nat} {e : TypeId} {sz n : Nat} {v : Value} {xs : List Value} (hx : Ex w0 w) (h : w.ownsRow B e sz v n xs) (hB : w0.heap.size ≤ B) (k : w.grownBy w' v.ownBlock) : Ex w0 w' :=
  Below.grown hx k (Below.size hx) (fun j hj => Nat.le_trans hB (h.lt j hj).1)
/-- bytes in a block of bytes -/
def SN9 (w : World) (p : Pt) : Prop := p.In w w.heap.size ∧ ∀ a, p.ad = some a → ∃ cs fr, w.heap[a.block]? = some (.cells cs 5 fr)
theorem SN9.ext {w w' : World} {p : Pt} (h : SN9 w p) (k : Ex w w') : SN9 w' p := ⟨h.1.ext k, fun a e => by obtain ⟨cs, fr, hc⟩ := h.2 a e; exact ⟨cs, fr, (k.block _ (blk_lt hc)).trans hc⟩⟩
def endR9 (id : List UInt8) (g : Int) : Rt := ⟨23, id, g, 0, nilB, 0, 0⟩
def toldR9 (id : List UInt8) (g : Int) (b : Nat) : Rt := ⟨0, id, g, 0, ⟨some ⟨b, 0, none⟩, 1, [115]⟩, 0, 0⟩
theorem endR9_ok {id : List UInt8} {g : Int} (h : id.length = 4) (hg : 0 ≤ g ∧ g < 18446744073709551616) : (endR9 id g).Ok := ⟨(by decide : (-9223372036854775808 : Int) ≤ 23), (by decide : (23 : Int) ≤ 9223372036854775807), h, hg.1, hg.2, (by decide : (-9223372036854775808 : Int) ≤ 0), (by decide : (0 : Int) ≤ 9223372036854775807), (by decide : (-9223372036854775808 : Int) ≤ 0), (by decide : (0 : Int) ≤ 9223372036854775807), (by decide : (0 : Int) ≤ 0), (by decide : (0 : Int) < 18446744073709551616)⟩
theorem toldR9_ok {id : List UInt8} {g : Int} (h : id.length = 4) (hg : 0 ≤ g ∧ g < 18446744073709551616) (b : Nat) : (toldR9 id g b).Ok := ⟨(by decide : (-9223372036854775808 : Int) ≤ 0), (by decide : (0 : Int) ≤ 9223372036854775807), h, hg.1, hg.2, (by decide : (-9223372036854775808 : Int) ≤ 0), (by decide : (0 : Int) ≤ 9223372036854775807), (by decide : (-9223372036854775808 : Int) ≤ 0), (by decide : (0 : Int) ≤ 9223372036854775807), (by decide : (0 : Int) ≤ 0), (by decide : (0 : Int) < 18446744073709551616)⟩
theorem built_r23 (id : List UInt8) (g : Int) (h : id.length = 4) : Try.prog.built 83 [(0, .int .i64 23), (1, digV id), (2, .int .u64 g)] = some (endR9 id g).C.toArray := by
  obtain ⟨i0, i1, i2, i3, rfl⟩ := len4 h
  kernel_rfl
theorem built_r0s (id : List UInt8) (g : Int) (b : Nat) (h : id.length = 4) : Try.prog.built 83 [(1, digV id), (2, .int .u64 g), (4, .slice (some ⟨b, 0, none⟩) 1 1)] = some (toldR9 id g b).C.toArray := by
  obtain ⟨i0, i1, i2, i3, rfl⟩ := len4 h
  kernel_rfl
/-- a row of replies of at most 20 -/
def R20 (w : World) (v : Value) (l : List Rt) : Prop := l.length ≤ 20 ∧ ∃ ad cap, v = .slice ad l.length cap ∧ Rp.In ad cap l w
theorem R20.ext {w w' : World} {v : Value} {l : List Rt} (h : R20 w v l) (k : Ex w w') : R20 w' v l := by
  obtain ⟨h1, ad, cap, h2, h3⟩ := h
  exact ⟨h1, ad, cap, h2, h3.ext k⟩
set_option maxHeartbeats 8000000 in
set_option maxRecDepth 100000 in
theorem counts_any (ad : Option Addr) (cap : Nat) (a9 : List Rt) (ad2 : Option Addr) (cap2 : Nat) (b9 : List Rt) (id : List UInt8) (gen : Int) (w : World) (hL : a9.length ≤ 9223372036854775807) (hL2 : b9.length ≤ 9223372036854775807) (hin : Rp.In ad cap a9 w) (hin2 : Rp.In ad2 cap2 b9 w) (hid : id.length = 4) (hgen : 0 ≤ gen ∧ gen < 18446744073709551616) : Calls Try.prog 14 #[.slice ad a9.length cap, .slice ad2 b9.length cap2, digV id, .int .u64 gen] w fun e w' => e = .returned (.bool true) ∧ Ex w w' := by
  have hcv := fun (w : World) (C : Array Value) (n c : Nat) => Lib.run_convert_bytes_const (P := Try.prog) w 25 5 C n c Try.underlying25 Try.underlying5
  obtain ⟨n, hn⟩ : ∃ n, n = a9.length := ⟨_, rfl⟩
  obtain ⟨m, hm⟩ : ∃ n, n = b9.length := ⟨_, rfl⟩
  rw [show (Value.slice ad a9.length cap) = .slice ad n cap by rw [hn], show (Value.slice ad2 b9.length cap2) = .slice ad2 m cap2 by rw [hm]]
  rw [← hn] at hL
  rw [← hm] at hL2
  have HN := Lib.hid hn
  have HM := Lib.hid hm
  have HA := Lib.hid hin
  have HB := Lib.hid hin2
  have HID := Lib.hid hid
  have HG := Lib.hid hgen
  clear hn hm hin hin2 hid hgen
  obtain ⟨cs, hcs⟩ : ∃ cs, cs = (Lib.byteCells id).toArray := ⟨_, rfl⟩
  have I0 : Hid (Bk (w.alloc (.cells cs 32)) w.heap.size 32 (Lib.byteCells id).toArray) := Lib.hid (by rw [hcs]; exact Bk.new rfl _ _)
  have B0 : Hid (Ex w (w.alloc (.cells cs 32))) := Lib.hid (Ex.alloc _ _)
  rw [show (Calls Try.prog 14 #[.slice ad n cap, .slice ad2 m cap2, digV id, .int .u64 gen] w) = (Calls Try.prog 14 #[.slice ad n cap, .slice ad2 m cap2, .agg cs, .int .u64 gen] w) by rw [hcs]; rfl]
  clear hcs
  go_enter Try.func14, Try.ntmps14
  go_upto_if 14 with fail
  generalize hw1 : w.alloc (.cells cs 32) = w1 at *
  clear hw1
  obtain ⟨B, hB⟩ : ∃ B, B = w.heap.size := ⟨_, rfl⟩
  rw [← hB] at I0 ⊢
  clear hB
  replace HA := Lib.hid (HA.out.ext B0.out)
  replace HB := Lib.hid (HB.out.ext B0.out)
  have BX := Lib.hid (Ex.refl w1)
  go_cut [0] (fun s0 wd => ∃ l : List Rt, Hid (R20 wd s0 l) ∧ Hid (Ex w1 wd))
  case first =>
    by_cases h20 : 20 < n
    · have q20 : (20 : Int) < (n : Int) := by omega
      have hcap : 20 ≤ cap := by have := HA.out.len; have := HN.out; omega
      go_wp2_with (with_reducible refine stop_slice ?_)
      (with_reducible refine at9 ?_ ?_); (focus go_simp); refine fun K0 hK => wp_sl_h 98 _ _ rfl Try.sl98 10 Try.sz98 ad n cap 20 rfl rfl hcap (hK _ _ ?_)
      clear hK
      rw [sliced_z9]
      go_wp2_with fail
      go_meet
      case rel => exact ⟨a9.take 20, Lib.hid ⟨by rw [List.length_take]; exact Nat.min_le_left _ _, ad, cap, by rw [List.length_take, ← HN.out, Nat.min_eq_left (by omega)], HA.out.take 20⟩, BX⟩
    have q20 : ¬ (20 : Int) < (n : Int) := by omega
    go_wp2_with fail
    go_meet
    case rel => exact ⟨a9, Lib.hid ⟨by rw [← HN.out]; omega, ad, cap, by rw [← HN.out], HA.out⟩, BX⟩
  case rest =>
    clear HA BX
    obtain ⟨A, HA, BX⟩ := hcut
    skip
    replace HB := Lib.hid (HB.out.ext BX.out)
    go_upto_if 19 with fail
    have BZ := Lib.hid (Ex.refl wc)
    go_cut [1] (fun s0 wd => ∃ l : List Rt, Hid (R20 wd s0 l) ∧ Hid (Ex wc wd))
    case first =>
      by_cases h20 : 20 < m
      · have q20 : (20 : Int) < (m : Int) := by omega
        have hcap : 20 ≤ cap2 := by have := HB.out.len; have := HM.out; omega
        go_wp2_with (with_reducible refine stop_slice ?_)
        (with_reducible refine at9 ?_ ?_); (focus go_simp); refine fun K0 hK => wp_sl_h 98 _ _ rfl Try.sl98 10 Try.sz98 ad2 m cap2 20 rfl rfl hcap (hK _ _ ?_)
        clear hK
        rw [sliced_z9]
        go_wp2_with fail
        go_meet
        case rel => exact ⟨b9.take 20, Lib.hid ⟨by rw [List.length_take]; exact Nat.min_le_left _ _, ad2, cap2, by rw [List.length_take, ← HM.out, Nat.min_eq_left (by omega)], HB.out.take 20⟩, BZ⟩
      have q20 : ¬ (20 : Int) < (m : Int) := by omega
      go_wp2_with fail
      go_meet
      case rel => exact ⟨b9, Lib.hid ⟨by rw [← HM.out]; omega, ad2, cap2, by rw [← HM.out], HB.out⟩, BZ⟩
    case rest =>
      clear HB BZ
      obtain ⟨Bl, HB, BZ⟩ := hcut
      replace HA := Lib.hid (HA.out.ext BZ.out)
      replace BX := Lib.hid (Ex.trans BX.out BZ.out)
      replace I0 := Lib.hid (I0.out.ext BX.out)
      replace B0 := Lib.hid (Ex.trans B0.out BX.out)
      clear BZ BX HN HM
      go_wp2_with (first | ((with_reducible refine so0 ?_ ?_); (focus rfl)) | (with_reducible refine stop_app ?_) | (with_reducible refine stop_slice ?_))
      (with_reducible refine ⟨?_⟩)
      have xa := Ex.alloc wc (.cells #[] 83)
      have E0 : Hid ((wc.alloc (.cells #[] 83)).ownsRow wc.heap.size 83 10 (.slice (some ⟨wc.heap.size, 0, none⟩) 0 0) 0 []) := Lib.hid (Emp.own ⟨wc.heap.size, rfl, Nat.le_refl _, Bk.new rfl _ _⟩ 10)
      generalize hw3 : wc.alloc (.cells #[] 83) = w3 at *
      have X3 := Lib.hid xa
      obtain ⟨gc, hgc⟩ : ∃ g, g = wc.heap.size := ⟨_, rfl⟩
      rw [← hgc] at E0 ⊢
      have HGC := Lib.hid hgc
      clear hw3 hgc xa
      obtain ⟨hA20, ada, capa, e0, hAin⟩ := HA.out
      subst e0
      obtain ⟨hB20, adb, capb, e0, hBin⟩ := HB.out
      subst e0
      have HAC := Lib.hid hAin
      have HBC := Lib.hid hBin
      have HAI := Lib.hid (hAin.ext X3.out)
      have HBI := Lib.hid (hBin.ext X3.out)
      obtain ⟨na, hna⟩ : ∃ n, n = A.length := ⟨_, rfl⟩
      obtain ⟨nb, hnb⟩ : ∃ n, n = Bl.length := ⟨_, rfl⟩
      rw [← hna] at hA20 ⊢
      rw [← hnb] at hB20 ⊢
      have HNA := Lib.hid hna
      have HNB := Lib.hid hnb
      clear hna hnb hAin hBin HA HB
      (with_reducible refine at_any ?_ ?_); (focus go_simp); refine fun K0 hK => wp_gapp _ _ 98 83 zeroRt.V 10 72 rfl Try.underlying98 Try.infoRt rfl (by decide) gc 0 _ [] rfl E0.out (by rw [HGC.out]; exact Below.size X3.out) ada na capa (A.flatMap Rt.C) rfl (by rw [HNA.out]; exact HAI.out.rd) (by rw [HNA.out]; exact HAI.out.len) HAI.out.nil (gflat_one Rt.C fun x _ => x.C_one) (by omega) (by omega) (fun v5 w5 r1 r2 _ => hK _ _ ?_)
      clear hK
      have x5 : Ex wc w5 := own_grown X3.out E0.out (by rw [HGC.out]; exact Nat.le_refl _) r2
      have O5 : Hid (w5.ownsRow gc 83 10 v5 na (A.flatMap Rt.C)) := Lib.hid (by simpa using r1)
      have X5 := Lib.hid x5
      clear r1 r2 x5 E0
      go_wp2_with (first | ((with_reducible refine so0 ?_ ?_); (focus rfl)) | (with_reducible refine stop_app ?_) | (with_reducible refine stop_slice ?_))
      have BR5 : Hid (Rd w5 adb Bl.length 10 (Bl.flatMap Rt.C)) := Lib.hid (HBC.out.ext X5.out).rd
      (with_reducible refine at9 ?_ ?_); (focus go_simp); refine fun K0 hK => wp_gapp _ _ 98 83 zeroRt.V 10 72 rfl Try.underlying98 Try.infoRt rfl (by decide) gc na _ _ rfl O5.out (by rw [HGC.out]; exact Below.size X5.out) adb nb capb (Bl.flatMap Rt.C) rfl (by rw [HNB.out]; exact BR5.out) (by rw [HNB.out]; exact HBI.out.len) HBI.out.nil (gflat_one Rt.C fun x _ => x.C_one) (by omega) (by omega) (fun v6 w6 r1 r2 _ => hK _ _ ?_)
      clear hK
      have x6 : Ex wc w6 := own_grown X5.out O5.out (by rw [HGC.out]; exact Nat.le_refl _) r2
      obtain ⟨al, hal⟩ : ∃ l, l = A ++ Bl := ⟨_, rfl⟩
      have HAL := Lib.hid hal
      have HCA := Lib.hid (HAC.out.ext x6)
      have HCB := Lib.hid (HBC.out.ext x6)
      have hri : ∀ x ∈ al, RI w6 x := fun x hx => by
        rw [hal] at hx
        rcases List.mem_append.1 hx with h | h
        · obtain ⟨i, hi, e⟩ := List.getElem_of_mem h
          exact HCA.out.ins i x (by rw [List.getElem?_eq_getElem hi, e])
        obtain ⟨i, hi, e⟩ := List.getElem_of_mem h
        exact HCB.out.ins i x (by rw [List.getElem?_eq_getElem hi, e])
      have hnl : na + nb = al.length := by rw [hal, List.length_append, ← HNA.out, ← HNB.out]
      obtain ⟨adl, capl, rfl, hlin⟩ := Rp.of_own hnl (by rw [hal, List.flatMap_append]; exact r1) hri
      have HLI := Lib.hid hlin
      have HLL := Lib.hid hnl
      rw [← hnl]
      have X6 := Lib.hid x6
      clear r1 r2 x6 hal hri hlin hnl O5 BR5 HAI HBI HAC HBC X3 X5
      replace I0 := Lib.hid (I0.out.ext X6.out)
      replace B0 := Lib.hid (Ex.trans B0.out X6.out)
      clear X6
      go_upto_region 6 with fail
      go_cut [69] (fun s69 wd => s69 = .bool false ∧ Hid (Ex w6 wd))
      case first =>
        go_wp2_with fail
        have CW : Hid (al.countP (wrongB id gen) = A.countP (wrongB id gen) + Bl.countP (wrongB id gen)) := Lib.hid (by rw [HAL.out, List.countP_append])
        have CT : Hid (al.countP (toldB id gen) = A.countP (toldB id gen) + Bl.countP (toldB id gen)) := Lib.hid (by rw [HAL.out, List.countP_append])
        have C1 := Lib.hid (fun w1 k => wrongs_any id gen adl capl al w1 HID.out (by rw [← HLL.out]; omega) (HLI.out.ext (k : Ex w6 w1)))
        have C2 := Lib.hid (fun w1 k => wrongs_any id gen ada capa A w1 HID.out (by rw [← HNA.out]; omega) (HCA.out.ext (k : Ex w6 w1)))
        have C3 := Lib.hid (fun w1 k => wrongs_any id gen adb capb Bl w1 HID.out (by rw [← HNB.out]; omega) (HCB.out.ext (k : Ex w6 w1)))
        have C4 := Lib.hid (fun w1 k => told_any id gen adl capl al w1 HID.out (by rw [← HLL.out]; omega) (HLI.out.ext (k : Ex w6 w1)))
        have C5 := Lib.hid (fun w1 k => told_any id gen ada capa A w1 HID.out (by rw [← HNA.out]; omega) (HCA.out.ext (k : Ex w6 w1)))
        have C6 := Lib.hid (fun w1 k => told_any id gen adb capb Bl w1 HID.out (by rw [← HNB.out]; omega) (HCB.out.ext (k : Ex w6 w1)))
        have C7 := Lib.hid (fun w1 k => aft_any adl capl al w1 (by rw [← HLL.out]; omega) (HLI.out.ext (k : Ex w6 w1)))
        have C8 := Lib.hid (fun w1 k => aft_any ada capa A w1 (by rw [← HNA.out]; omega) (HCA.out.ext (k : Ex w6 w1)))
        have C9 := Lib.hid (fun w1 k => aft_any adb capb Bl w1 (by rw [← HNB.out]; omega) (HCB.out.ext (k : Ex w6 w1)))
        rw [CW.out] at C1
        rw [CT.out] at C4
        rw [← HLL.out] at C1 C4 C7
        rw [← HNA.out] at C2 C5 C8
        rw [← HNB.out] at C3 C6 C9
        have HAB : Hid (aftB A = true ∨ aftB Bl = true → aftB al = true) := Lib.hid (by
          rw [HAL.out, aftB_iff, aftB_iff, aftB_iff]
          exact fun h => h.elim AfterP.left AfterP.right)
        have b1 : A.countP (wrongB id gen) ≤ 20 := Nat.le_trans List.countP_le_length (by rw [← HNA.out]; exact hA20)
        have b2 : Bl.countP (wrongB id gen) ≤ 20 := Nat.le_trans List.countP_le_length (by rw [← HNB.out]; exact hB20)
        have b3 : A.countP (toldB id gen) ≤ 20 := Nat.le_trans List.countP_le_length (by rw [← HNA.out]; exact hA20)
        have b4 : Bl.countP (toldB id gen) ≤ 20 := Nat.le_trans List.countP_le_length (by rw [← HNB.out]; exact hB20)
        clear CW CT
        generalize A.countP (wrongB id gen) = wa at *
        generalize Bl.countP (wrongB id gen) = wb at *
        generalize A.countP (toldB id gen) = ta at *
        generalize Bl.countP (toldB id gen) = tb at *
        generalize aftB A = za at *
        generalize aftB Bl = zb at *
        generalize aftB al = zl at *
        cases za
        · cases zb
          · skip
            have hS0 : ∀ (listed : Array Bool) (f : Nat → Value), (∀ i, listed.getD i false = false) → Ex w6 w6.drew := fun _ _ _ => (Below.refl w6.heap.size w6).drew
            obtain ⟨T, hT⟩ : ∃ T : List (Value → Prop), T = [(fun zz => zz = digV id), (fun zz => zz = .int .u64 gen), (fun zz => zz = .slice adl (na + nb) capl), (fun zz => zz = .int .i64 ((wa : Int) + (wb : Int))), (fun zz => zz = digV id), (fun zz => zz = .int .u64 gen), (fun zz => zz = .slice ada na capa), (fun zz => zz = .int .i64 (wa : Int)), (fun zz => zz = digV id), (fun zz => zz = .int .u64 gen), (fun zz => zz = .slice adb nb capb), (fun zz => zz = .int .i64 (wb : Int)), (fun zz => zz = .int .i64 ((wa : Int) + (wb : Int))), (fun zz => zz = .bool false), (fun zz => zz = .bool false), (fun zz => zz = digV id), (fun zz => zz = .int .u64 gen), (fun zz => zz = .slice adl (na + nb) capl), (fun zz => zz = .int .i64 ((ta : Int) + (tb : Int))), (fun zz => zz = digV id), (fun zz => zz = .int .u64 gen), (fun zz => zz = .slice ada na capa), (fun zz => zz = .int .i64 (ta : Int)), (fun zz => zz = digV id), (fun zz => zz = .int .u64 gen), (fun zz => zz = .slice adb nb capb), (fun zz => zz = .int .i64 (tb : Int)), (fun zz => zz = .int .i64 ((ta : Int) + (tb : Int))), (fun zz => zz = .bool false), (fun zz => zz = .bool false), (fun zz => zz = .bool false), (fun zz => zz = .slice ada na capa), (fun zz => zz = .bool false), (fun zz => zz = .bool false), (fun zz => zz = .slice adb nb capb), (fun zz => zz = .bool false), (fun zz => zz = .bool false), (fun zz => zz = .bool false), (fun zz => zz = undef), (fun zz => zz = undef), (fun zz => zz = undef), (fun zz => zz = .bool false), (fun zz => zz = .bool false)] := ⟨_, rfl⟩
            refine wp_region_gen (JS T ([] : List (Nat × Nat)) (fun _ _ wq => Ex w6 wq)) (by kernel_rfl) (by kernel_rfl) (by kernel_rfl) (fitB_spec (by kernel_rfl)) (fun listed f h => JS.start listed f h (hS0 listed f h)) ?_ ?_
            · intro i o ho
              have hi : i < 43 := (Array.getElem?_eq_some_iff.1 ho).1
              have hi' : i = 0 ∨ i = 1 ∨ i = 2 ∨ i = 3 ∨ i = 4 ∨ i = 5 ∨ i = 6 ∨ i = 7 ∨ i = 8 ∨ i = 9 ∨ i = 10 ∨ i = 11 ∨ i = 12 ∨ i = 13 ∨ i = 14 ∨ i = 15 ∨ i = 16 ∨ i = 17 ∨ i = 18 ∨ i = 19 ∨ i = 20 ∨ i = 21 ∨ i = 22 ∨ i = 23 ∨ i = 24 ∨ i = 25 ∨ i = 26 ∨ i = 27 ∨ i = 28 ∨ i = 29 ∨ i = 30 ∨ i = 31 ∨ i = 32 ∨ i = 33 ∨ i = 34 ∨ i = 35 ∨ i = 36 ∨ i = 37 ∨ i = 38 ∨ i = 39 ∨ i = 40 ∨ i = 41 ∨ i = 42 := by omega
              clear hi
              rcases hi' with rfl | rfl | rfl | rfl | rfl | rfl | rfl | rfl | rfl | rfl | rfl | rfl | rfl | rfl | rfl | rfl | rfl | rfl | rfl | rfl | rfl | rfl | rfl | rfl | rfl | rfl | rfl | rfl | rfl | rfl | rfl | rfl | rfl | rfl | rfl | rfl | rfl | rfl | rfl | rfl | rfl | rfl | rfl
              all_goals (simp only [List.getElem?_toArray, List.getElem?_cons_zero, List.getElem?_cons_succ, Option.some.injEq] at ho; subst ho; intro listed f a w7 hJ hsz hls hun hdep hout hlat; first | (rw [if_pos (by rfl)]; intro K hK) | skip)
              · have q6 := hout 6 (outB_spec (by kernel_rfl))
                have hord : ∀ x ∈ ([] : List (Nat × Nat)), x.1 = 0 → listed.getD x.2 false = true := by simp
                exact ld_ib _ B id HID.out rfl q6 (I0.out.ext hJ.st) (hK _ _ (hJ.next (by rw [hls]; decide) (by rw [hT]; rfl) hJ.st hord))
              · have q3 := hout 3 (outB_spec (by kernel_rfl))
                have hord : ∀ x ∈ ([] : List (Nat × Nat)), x.1 = 1 → listed.getD x.2 false = true := by simp
                refine wp_mv _ rfl (hK _ _ ?_)
                rw [show a.eval (.tmp 3) = .int .u64 gen from q3]
                exact hJ.next (by rw [hls]; decide) (by rw [hT]; rfl) hJ.st hord
              · have q9 := hout 9 (outB_spec (by kernel_rfl))
                have hord : ∀ x ∈ ([] : List (Nat × Nat)), x.1 = 2 → listed.getD x.2 false = true := by simp
                refine wp_mv _ rfl (hK _ _ ?_)
                rw [show a.eval (.tmp 9) = .slice adl (na + nb) capl from q9]
                exact hJ.next (by rw [hls]; decide) (by rw [hT]; rfl) hJ.st hord
              · have q27 := hJ.is hT (hdep ⟨0, .data⟩ (by simp) rfl) rfl _ rfl _ rfl
                have q28 := hJ.is hT (hdep ⟨1, .data⟩ (by simp) rfl) rfl _ rfl _ rfl
                have q29 := hJ.is hT (hdep ⟨2, .data⟩ (by simp) rfl) rfl _ rfl _ rfl
                have hord : ∀ x ∈ ([] : List (Nat × Nat)), x.1 = 3 → listed.getD x.2 false = true := by simp
                rw [Array.getD_eq_getD_getElem?] at q27
                rw [Array.getD_eq_getD_getElem?] at q28
                rw [Array.getD_eq_getD_getElem?] at q29
                have hst := hJ.st
                clear hsz hdep hout hlat
                go_simp
                refine (C1.out w7 hst).mono ?_
                rintro e wq ⟨rfl, xq⟩
                exact hK _ _ (hJ.next (by rw [hls]; decide) (by rw [hT]; first | rfl | exact congrArg (Value.int .i64) (by omega)) (Ex.trans hst xq) hord)
              · have q6 := hout 6 (outB_spec (by kernel_rfl))
                have hord : ∀ x ∈ ([] : List (Nat × Nat)), x.1 = 4 → listed.getD x.2 false = true := by simp
                exact ld_ib _ B id HID.out rfl q6 (I0.out.ext hJ.st) (hK _ _ (hJ.next (by rw [hls]; decide) (by rw [hT]; rfl) hJ.st hord))
              · have q3 := hout 3 (outB_spec (by kernel_rfl))
                have hord : ∀ x ∈ ([] : List (Nat × Nat)), x.1 = 5 → listed.getD x.2 false = true := by simp
                refine wp_mv _ rfl (hK _ _ ?_)
                rw [show a.eval (.tmp 3) = .int .u64 gen from q3]
                exact hJ.next (by rw [hls]; decide) (by rw [hT]; rfl) hJ.st hord
              · have q0 := hout 0 (outB_spec (by kernel_rfl))
                have hord : ∀ x ∈ ([] : List (Nat × Nat)), x.1 = 6 → listed.getD x.2 false = true := by simp
                refine wp_mv _ rfl (hK _ _ ?_)
                rw [show a.eval (.tmp 0) = .slice ada na capa from q0]
                exact hJ.next (by rw [hls]; decide) (by rw [hT]; rfl) hJ.st hord
              · have q31 := hJ.is hT (hdep ⟨4, .data⟩ (by simp) rfl) rfl _ rfl _ rfl
                have q32 := hJ.is hT (hdep ⟨5, .data⟩ (by simp) rfl) rfl _ rfl _ rfl
                have q33 := hJ.is hT (hdep ⟨6, .data⟩ (by simp) rfl) rfl _ rfl _ rfl
                have hord : ∀ x ∈ ([] : List (Nat × Nat)), x.1 = 7 → listed.getD x.2 false = true := by simp
                rw [Array.getD_eq_getD_getElem?] at q31
                rw [Array.getD_eq_getD_getElem?] at q32
                rw [Array.getD_eq_getD_getElem?] at q33
                have hst := hJ.st
                clear hsz hdep hout hlat
                go_simp
                refine (C2.out w7 hst).mono ?_
                rintro e wq ⟨rfl, xq⟩
                exact hK _ _ (hJ.next (by rw [hls]; decide) (by rw [hT]; rfl) (Ex.trans hst xq) hord)
              · have q6 := hout 6 (outB_spec (by kernel_rfl))
                have hord : ∀ x ∈ ([] : List (Nat × Nat)), x.1 = 8 → listed.getD x.2 false = true := by simp
                exact ld_ib _ B id HID.out rfl q6 (I0.out.ext hJ.st) (hK _ _ (hJ.next (by rw [hls]; decide) (by rw [hT]; rfl) hJ.st hord))
              · have q3 := hout 3 (outB_spec (by kernel_rfl))
                have hord : ∀ x ∈ ([] : List (Nat × Nat)), x.1 = 9 → listed.getD x.2 false = true := by simp
                refine wp_mv _ rfl (hK _ _ ?_)
                rw [show a.eval (.tmp 3) = .int .u64 gen from q3]
                exact hJ.next (by rw [hls]; decide) (by rw [hT]; rfl) hJ.st hord
              · have q1 := hout 1 (outB_spec (by kernel_rfl))
                have hord : ∀ x ∈ ([] : List (Nat × Nat)), x.1 = 10 → listed.getD x.2 false = true := by simp
                refine wp_mv _ rfl (hK _ _ ?_)
                rw [show a.eval (.tmp 1) = .slice adb nb capb from q1]
                exact hJ.next (by rw [hls]; decide) (by rw [hT]; rfl) hJ.st hord
              · have q35 := hJ.is hT (hdep ⟨8, .data⟩ (by simp) rfl) rfl _ rfl _ rfl
                have q36 := hJ.is hT (hdep ⟨9, .data⟩ (by simp) rfl) rfl _ rfl _ rfl
                have q37 := hJ.is hT (hdep ⟨10, .data⟩ (by simp) rfl) rfl _ rfl _ rfl
                have hord : ∀ x ∈ ([] : List (Nat × Nat)), x.1 = 11 → listed.getD x.2 false = true := by simp
                rw [Array.getD_eq_getD_getElem?] at q35
                rw [Array.getD_eq_getD_getElem?] at q36
                rw [Array.getD_eq_getD_getElem?] at q37
                have hst := hJ.st
                clear hsz hdep hout hlat
                go_simp
                refine (C3.out w7 hst).mono ?_
                rintro e wq ⟨rfl, xq⟩
                exact hK _ _ (hJ.next (by rw [hls]; decide) (by rw [hT]; rfl) (Ex.trans hst xq) hord)
              · have q34 := hJ.is hT (hdep ⟨7, .data⟩ (by simp) rfl) rfl _ rfl _ rfl
                have q38 := hJ.is hT (hdep ⟨11, .data⟩ (by simp) rfl) rfl _ rfl _ rfl
                have hord : ∀ x ∈ ([] : List (Nat × Nat)), x.1 = 12 → listed.getD x.2 false = true := by simp
                rw [Array.getD_eq_getD_getElem?] at q34
                rw [Array.getD_eq_getD_getElem?] at q38
                have hw : IntKind.i64.wrap ((wa : Int) + (wb : Int)) = (wa : Int) + (wb : Int) := by rw [IntKind.wrap_i64]; omega
                clear hsz hdep hout hlat
                go_simp
                exact hK _ _ (hJ.next (by rw [hls]; decide) (by rw [hT]; first | rfl | exact congrArg (Value.int .i64) hw) hJ.st hord)
              · have q30 := hJ.is hT (hdep ⟨3, .data⟩ (by simp) rfl) rfl _ rfl _ rfl
                have q39 := hJ.is hT (hdep ⟨12, .data⟩ (by simp) rfl) rfl _ rfl _ rfl
                have hord : ∀ x ∈ ([] : List (Nat × Nat)), x.1 = 13 → listed.getD x.2 false = true := by simp
                rw [Array.getD_eq_getD_getElem?] at q30
                rw [Array.getD_eq_getD_getElem?] at q39
                clear hsz hdep hout hlat
                go_simp
                exact hK _ _ (hJ.next (by rw [hls]; decide) (by rw [hT]; first | rfl | simp) hJ.st hord)
              · have q40 := hJ.is hT (hdep ⟨13, .data⟩ (by simp) rfl) rfl _ rfl _ rfl
                have hord : ∀ x ∈ ([] : List (Nat × Nat)), x.1 = 14 → listed.getD x.2 false = true := by simp
                refine wp_mv _ rfl (hK _ _ ?_)
                rw [show a.eval (.tmp 40) = .bool false from q40]
                exact hJ.next (by rw [hls]; decide) (by rw [hT]; rfl) hJ.st hord
              · have ddg := hdep ⟨14, .guard⟩ (by simp) rfl
                have kg := ddg.2 _ rfl _ rfl
                have hg := hJ.vals 14 ddg.1
                rw [hT] at hg
                rw [show f 14 = .bool false from hg] at kg
                clear hg ddg
                rw [if_pos (wanted_of rfl rfl rfl kg)]
                clear kg
                intro K hK
                have q6 := hout 6 (outB_spec (by kernel_rfl))
                have hord : ∀ x ∈ ([] : List (Nat × Nat)), x.1 = 15 → listed.getD x.2 false = true := by simp
                exact ld_ib _ B id HID.out rfl q6 (I0.out.ext hJ.st) (hK _ _ (hJ.next (by rw [hls]; decide) (by rw [hT]; rfl) hJ.st hord))
              · have ddg := hdep ⟨14, .guard⟩ (by simp) rfl
                have kg := ddg.2 _ rfl _ rfl
                have hg := hJ.vals 14 ddg.1
                rw [hT] at hg
                rw [show f 14 = .bool false from hg] at kg
                clear hg ddg
                rw [if_pos (wanted_of rfl rfl rfl kg)]
                clear kg
                intro K hK
                have q3 := hout 3 (outB_spec (by kernel_rfl))
                have hord : ∀ x ∈ ([] : List (Nat × Nat)), x.1 = 16 → listed.getD x.2 false = true := by simp
                refine wp_mv _ rfl (hK _ _ ?_)
                rw [show a.eval (.tmp 3) = .int .u64 gen from q3]
                exact hJ.next (by rw [hls]; decide) (by rw [hT]; rfl) hJ.st hord
              · have ddg := hdep ⟨14, .guard⟩ (by simp) rfl
                have kg := ddg.2 _ rfl _ rfl
                have hg := hJ.vals 14 ddg.1
                rw [hT] at hg
                rw [show f 14 = .bool false from hg] at kg
                clear hg ddg
                rw [if_pos (wanted_of rfl rfl rfl kg)]
                clear kg
                intro K hK
                have q9 := hout 9 (outB_spec (by kernel_rfl))
                have hord : ∀ x ∈ ([] : List (Nat × Nat)), x.1 = 17 → listed.getD x.2 false = true := by simp
                refine wp_mv _ rfl (hK _ _ ?_)
                rw [show a.eval (.tmp 9) = .slice adl (na + nb) capl from q9]
                exact hJ.next (by rw [hls]; decide) (by rw [hT]; rfl) hJ.st hord
              · have ddg := hdep ⟨14, .guard⟩ (by simp) rfl
                have kg := ddg.2 _ rfl _ rfl
                have hg := hJ.vals 14 ddg.1
                rw [hT] at hg
                rw [show f 14 = .bool false from hg] at kg
                clear hg ddg
                rw [if_pos (wanted_of rfl rfl rfl kg)]
                clear kg
                intro K hK
                have q42 := hJ.is hT (hdep ⟨15, .data⟩ (by simp) rfl) rfl _ rfl _ rfl
                have q43 := hJ.is hT (hdep ⟨16, .data⟩ (by simp) rfl) rfl _ rfl _ rfl
                have q44 := hJ.is hT (hdep ⟨17, .data⟩ (by simp) rfl) rfl _ rfl _ rfl
                have hord : ∀ x ∈ ([] : List (Nat × Nat)), x.1 = 18 → listed.getD x.2 false = true := by simp
                rw [Array.getD_eq_getD_getElem?] at q42
                rw [Array.getD_eq_getD_getElem?] at q43
                rw [Array.getD_eq_getD_getElem?] at q44
                have hst := hJ.st
                clear hsz hdep hout hlat
                go_simp
                refine (C4.out w7 hst).mono ?_
                rintro e wq ⟨rfl, xq⟩
                exact hK _ _ (hJ.next (by rw [hls]; decide) (by rw [hT]; first | rfl | exact congrArg (Value.int .i64) (by omega)) (Ex.trans hst xq) hord)
              · have ddg := hdep ⟨14, .guard⟩ (by simp) rfl
                have kg := ddg.2 _ rfl _ rfl
                have hg := hJ.vals 14 ddg.1
                rw [hT] at hg
                rw [show f 14 = .bool false from hg] at kg
                clear hg ddg
                rw [if_pos (wanted_of rfl rfl rfl kg)]
                clear kg
                intro K hK
                have q6 := hout 6 (outB_spec (by kernel_rfl))
                have hord : ∀ x ∈ ([] : List (Nat × Nat)), x.1 = 19 → listed.getD x.2 false = true := by simp
                exact ld_ib _ B id HID.out rfl q6 (I0.out.ext hJ.st) (hK _ _ (hJ.next (by rw [hls]; decide) (by rw [hT]; rfl) hJ.st hord))
              · have ddg := hdep ⟨14, .guard⟩ (by simp) rfl
                have kg := ddg.2 _ rfl _ rfl
                have hg := hJ.vals 14 ddg.1
                rw [hT] at hg
                rw [show f 14 = .bool false from hg] at kg
                clear hg ddg
                rw [if_pos (wanted_of rfl rfl rfl kg)]
                clear kg
                intro K hK
                have q3 := hout 3 (outB_spec (by kernel_rfl))
                have hord : ∀ x ∈ ([] : List (Nat × Nat)), x.1 = 20 → listed.getD x.2 false = true := by simp
                refine wp_mv _ rfl (hK _ _ ?_)
                rw [show a.eval (.tmp 3) = .int .u64 gen from q3]
                exact hJ.next (by rw [hls]; decide) (by rw [hT]; rfl) hJ.st hord
              · have ddg := hdep ⟨14, .guard⟩ (by simp) rfl
                have kg := ddg.2 _ rfl _ rfl
                have hg := hJ.vals 14 ddg.1
                rw [hT] at hg
                rw [show f 14 = .bool false from hg] at kg
                clear hg ddg
                rw [if_pos (wanted_of rfl rfl rfl kg)]
                clear kg
                intro K hK
                have q0 := hout 0 (outB_spec (by kernel_rfl))
                have hord : ∀ x ∈ ([] : List (Nat × Nat)), x.1 = 21 → listed.getD x.2 false = true := by simp
                refine wp_mv _ rfl (hK _ _ ?_)
                rw [show a.eval (.tmp 0) = .slice ada na capa from q0]
                exact hJ.next (by rw [hls]; decide) (by rw [hT]; rfl) hJ.st hord
              · have ddg := hdep ⟨14, .guard⟩ (by simp) rfl
                have kg := ddg.2 _ rfl _ rfl
                have hg := hJ.vals 14 ddg.1
                rw [hT] at hg
                rw [show f 14 = .bool false from hg] at kg
                clear hg ddg
                rw [if_pos (wanted_of rfl rfl rfl kg)]
                clear kg
                intro K hK
                have q46 := hJ.is hT (hdep ⟨19, .data⟩ (by simp) rfl) rfl _ rfl _ rfl
                have q47 := hJ.is hT (hdep ⟨20, .data⟩ (by simp) rfl) rfl _ rfl _ rfl
                have q48 := hJ.is hT (hdep ⟨21, .data⟩ (by simp) rfl) rfl _ rfl _ rfl
                have hord : ∀ x ∈ ([] : List (Nat × Nat)), x.1 = 22 → listed.getD x.2 false = true := by simp
                rw [Array.getD_eq_getD_getElem?] at q46
                rw [Array.getD_eq_getD_getElem?] at q47
                rw [Array.getD_eq_getD_getElem?] at q48
                have hst := hJ.st
                clear hsz hdep hout hlat
                go_simp
                refine (C5.out w7 hst).mono ?_
                rintro e wq ⟨rfl, xq⟩
                exact hK _ _ (hJ.next (by rw [hls]; decide) (by rw [hT]; rfl) (Ex.trans hst xq) hord)
              · have ddg := hdep ⟨14, .guard⟩ (by simp) rfl
                have kg := ddg.2 _ rfl _ rfl
                have hg := hJ.vals 14 ddg.1
                rw [hT] at hg
                rw [show f 14 = .bool false from hg] at kg
                clear hg ddg
                rw [if_pos (wanted_of rfl rfl rfl kg)]
                clear kg
                intro K hK
                have q6 := hout 6 (outB_spec (by kernel_rfl))
                have hord : ∀ x ∈ ([] : List (Nat × Nat)), x.1 = 23 → listed.getD x.2 false = true := by simp
                exact ld_ib _ B id HID.out rfl q6 (I0.out.ext hJ.st) (hK _ _ (hJ.next (by rw [hls]; decide) (by rw [hT]; rfl) hJ.st hord))
              · have ddg := hdep ⟨14, .guard⟩ (by simp) rfl
                have kg := ddg.2 _ rfl _ rfl
                have hg := hJ.vals 14 ddg.1
                rw [hT] at hg
                rw [show f 14 = .bool false from hg] at kg
                clear hg ddg
                rw [if_pos (wanted_of rfl rfl rfl kg)]
                clear kg
                intro K hK
                have q3 := hout 3 (outB_spec (by kernel_rfl))
                have hord : ∀ x ∈ ([] : List (Nat × Nat)), x.1 = 24 → listed.getD x.2 false = true := by simp
                refine wp_mv _ rfl (hK _ _ ?_)
                rw [show a.eval (.tmp 3) = .int .u64 gen from q3]
                exact hJ.next (by rw [hls]; decide) (by rw [hT]; rfl) hJ.st hord
              · have ddg := hdep ⟨14, .guard⟩ (by simp) rfl
                have kg := ddg.2 _ rfl _ rfl
                have hg := hJ.vals 14 ddg.1
                rw [hT] at hg
                rw [show f 14 = .bool false from hg] at kg
                clear hg ddg
                rw [if_pos (wanted_of rfl rfl rfl kg)]
                clear kg
                intro K hK
                have q1 := hout 1 (outB_spec (by kernel_rfl))
                have hord : ∀ x ∈ ([] : List (Nat × Nat)), x.1 = 25 → listed.getD x.2 false = true := by simp
                refine wp_mv _ rfl (hK _ _ ?_)
                rw [show a.eval (.tmp 1) = .slice adb nb capb from q1]
                exact hJ.next (by rw [hls]; decide) (by rw [hT]; rfl) hJ.st hord
              · have ddg := hdep ⟨14, .guard⟩ (by simp) rfl
                have kg := ddg.2 _ rfl _ rfl
                have hg := hJ.vals 14 ddg.1
                rw [hT] at hg
                rw [show f 14 = .bool false from hg] at kg
                clear hg ddg
                rw [if_pos (wanted_of rfl rfl rfl kg)]
                clear kg
                intro K hK
                have q50 := hJ.is hT (hdep ⟨23, .data⟩ (by simp) rfl) rfl _ rfl _ rfl
                have q51 := hJ.is hT (hdep ⟨24, .data⟩ (by simp) rfl) rfl _ rfl _ rfl
                have q52 := hJ.is hT (hdep ⟨25, .data⟩ (by simp) rfl) rfl _ rfl _ rfl
                have hord : ∀ x ∈ ([] : List (Nat × Nat)), x.1 = 26 → listed.getD x.2 false = true := by simp
                rw [Array.getD_eq_getD_getElem?] at q50
                rw [Array.getD_eq_getD_getElem?] at q51
                rw [Array.getD_eq_getD_getElem?] at q52
                have hst := hJ.st
                clear hsz hdep hout hlat
                go_simp
                refine (C6.out w7 hst).mono ?_
                rintro e wq ⟨rfl, xq⟩
                exact hK _ _ (hJ.next (by rw [hls]; decide) (by rw [hT]; rfl) (Ex.trans hst xq) hord)
              · have ddg := hdep ⟨14, .guard⟩ (by simp) rfl
                have kg := ddg.2 _ rfl _ rfl
                have hg := hJ.vals 14 ddg.1
                rw [hT] at hg
                rw [show f 14 = .bool false from hg] at kg
                clear hg ddg
                rw [if_pos (wanted_of rfl rfl rfl kg)]
                clear kg
                intro K hK
                have q49 := hJ.is hT (hdep ⟨22, .data⟩ (by simp) rfl) rfl _ rfl _ rfl
                have q53 := hJ.is hT (hdep ⟨26, .data⟩ (by simp) rfl) rfl _ rfl _ rfl
                have hord : ∀ x ∈ ([] : List (Nat × Nat)), x.1 = 27 → listed.getD x.2 false = true := by simp
                rw [Array.getD_eq_getD_getElem?] at q49
                rw [Array.getD_eq_getD_getElem?] at q53
                have hw : IntKind.i64.wrap ((ta : Int) + (tb : Int)) = (ta : Int) + (tb : Int) := by rw [IntKind.wrap_i64]; omega
                clear hsz hdep hout hlat
                go_simp
                exact hK _ _ (hJ.next (by rw [hls]; decide) (by rw [hT]; first | rfl | exact congrArg (Value.int .i64) hw) hJ.st hord)
              · have ddg := hdep ⟨14, .guard⟩ (by simp) rfl
                have kg := ddg.2 _ rfl _ rfl
                have hg := hJ.vals 14 ddg.1
                rw [hT] at hg
                rw [show f 14 = .bool false from hg] at kg
                clear hg ddg
                rw [if_pos (wanted_of rfl rfl rfl kg)]
                clear kg
                intro K hK
                have q45 := hJ.is hT (hdep ⟨18, .data⟩ (by simp) rfl) rfl _ rfl _ rfl
                have q54 := hJ.is hT (hdep ⟨27, .data⟩ (by simp) rfl) rfl _ rfl _ rfl
                have hord : ∀ x ∈ ([] : List (Nat × Nat)), x.1 = 28 → listed.getD x.2 false = true := by simp
                rw [Array.getD_eq_getD_getElem?] at q45
                rw [Array.getD_eq_getD_getElem?] at q54
                clear hsz hdep hout hlat
                go_simp
                exact hK _ _ (hJ.next (by rw [hls]; decide) (by rw [hT]; first | rfl | simp) hJ.st hord)
              · have q41 := hJ.is hT (hdep ⟨14, .data⟩ (by simp) rfl) rfl _ rfl _ rfl
                have q55 := hJ.is hT (hdep ⟨28, .data⟩ (by simp) rfl) rfl _ rfl _ rfl
                have hord : ∀ x ∈ ([] : List (Nat × Nat)), x.1 = 29 → listed.getD x.2 false = true := by simp
                rw [Array.getD_eq_getD_getElem?] at q41
                rw [Array.getD_eq_getD_getElem?] at q55
                clear hsz hdep hout hlat
                go_simp
                exact hK _ _ (hJ.next (by rw [hls]; decide) (by rw [hT]; first | rfl | exact congrArg (Value.int .i64) (by omega) | exact congrArg (Value.int .i64) (by rw [IntKind.wrap_i64]; omega) | exact congrArg Value.bool (decide_eq_false (by omega)) | exact congrArg Value.bool (decide_eq_true (by omega)) | exact congrArg (Value.int .u64) (by omega)) hJ.st hord)
              · have q56 := hJ.is hT (hdep ⟨29, .data⟩ (by simp) rfl) rfl _ rfl _ rfl
                have hord : ∀ x ∈ ([] : List (Nat × Nat)), x.1 = 30 → listed.getD x.2 false = true := by simp
                refine wp_mv _ rfl (hK _ _ ?_)
                rw [show a.eval (.tmp 56) = .bool false from q56]
                exact hJ.next (by rw [hls]; decide) (by rw [hT]; rfl) hJ.st hord
              · have ddg := hdep ⟨30, .guard⟩ (by simp) rfl
                have kg := ddg.2 _ rfl _ rfl
                have hg := hJ.vals 30 ddg.1
                rw [hT] at hg
                rw [show f 30 = .bool false from hg] at kg
                clear hg ddg
                rw [if_pos (wanted_of rfl rfl rfl kg)]
                clear kg
                intro K hK
                have q0 := hout 0 (outB_spec (by kernel_rfl))
                have hord : ∀ x ∈ ([] : List (Nat × Nat)), x.1 = 31 → listed.getD x.2 false = true := by simp
                refine wp_mv _ rfl (hK _ _ ?_)
                rw [show a.eval (.tmp 0) = .slice ada na capa from q0]
                exact hJ.next (by rw [hls]; decide) (by rw [hT]; rfl) hJ.st hord
              · have ddg := hdep ⟨30, .guard⟩ (by simp) rfl
                have kg := ddg.2 _ rfl _ rfl
                have hg := hJ.vals 30 ddg.1
                rw [hT] at hg
                rw [show f 30 = .bool false from hg] at kg
                clear hg ddg
                rw [if_pos (wanted_of rfl rfl rfl kg)]
                clear kg
                intro K hK
                have q58 := hJ.is hT (hdep ⟨31, .data⟩ (by simp) rfl) rfl _ rfl _ rfl
                have hord : ∀ x ∈ ([] : List (Nat × Nat)), x.1 = 32 → listed.getD x.2 false = true := by simp
                rw [Array.getD_eq_getD_getElem?] at q58
                have hst := hJ.st
                clear hsz hdep hout hlat
                go_simp
                refine (C8.out w7 hst).mono ?_
                rintro e wq ⟨rfl, xq⟩
                exact hK _ _ (hJ.next (by rw [hls]; decide) (by rw [hT]; rfl) (Ex.trans hst xq) hord)
              · have ddg := hdep ⟨30, .guard⟩ (by simp) rfl
                have kg := ddg.2 _ rfl _ rfl
                have hg := hJ.vals 30 ddg.1
                rw [hT] at hg
                rw [show f 30 = .bool false from hg] at kg
                clear hg ddg
                rw [if_pos (wanted_of rfl rfl rfl kg)]
                clear kg
                intro K hK
                have q59 := hJ.is hT (hdep ⟨32, .data⟩ (by simp) rfl) rfl _ rfl _ rfl
                have hord : ∀ x ∈ ([] : List (Nat × Nat)), x.1 = 33 → listed.getD x.2 false = true := by simp
                refine wp_mv _ rfl (hK _ _ ?_)
                rw [show a.eval (.tmp 59) = .bool false from q59]
                exact hJ.next (by rw [hls]; decide) (by rw [hT]; rfl) hJ.st hord
              · have ddg := hdep ⟨33, .guard⟩ (by simp) rfl
                have kg := ddg.2 _ rfl _ rfl
                have hg := hJ.vals 33 ddg.1
                rw [hT] at hg
                rw [show f 33 = .bool false from hg] at kg
                clear hg ddg
                rw [if_pos (wanted_of rfl rfl rfl kg)]
                clear kg
                intro K hK
                have q1 := hout 1 (outB_spec (by kernel_rfl))
                have hord : ∀ x ∈ ([] : List (Nat × Nat)), x.1 = 34 → listed.getD x.2 false = true := by simp
                refine wp_mv _ rfl (hK _ _ ?_)
                rw [show a.eval (.tmp 1) = .slice adb nb capb from q1]
                exact hJ.next (by rw [hls]; decide) (by rw [hT]; rfl) hJ.st hord
              · have ddg := hdep ⟨33, .guard⟩ (by simp) rfl
                have kg := ddg.2 _ rfl _ rfl
                have hg := hJ.vals 33 ddg.1
                rw [hT] at hg
                rw [show f 33 = .bool false from hg] at kg
                clear hg ddg
                rw [if_pos (wanted_of rfl rfl rfl kg)]
                clear kg
                intro K hK
                have q61 := hJ.is hT (hdep ⟨34, .data⟩ (by simp) rfl) rfl _ rfl _ rfl
                have hord : ∀ x ∈ ([] : List (Nat × Nat)), x.1 = 35 → listed.getD x.2 false = true := by simp
                rw [Array.getD_eq_getD_getElem?] at q61
                have hst := hJ.st
                clear hsz hdep hout hlat
                go_simp
                refine (C9.out w7 hst).mono ?_
                rintro e wq ⟨rfl, xq⟩
                exact hK _ _ (hJ.next (by rw [hls]; decide) (by rw [hT]; rfl) (Ex.trans hst xq) hord)
              · have ddg := hdep ⟨30, .guard⟩ (by simp) rfl
                have kg := ddg.2 _ rfl _ rfl
                have hg := hJ.vals 30 ddg.1
                rw [hT] at hg
                rw [show f 30 = .bool false from hg] at kg
                clear hg ddg
                rw [if_pos (wanted_of rfl rfl rfl kg)]
                clear kg
                intro K hK
                have q60 := hJ.is hT (hdep ⟨33, .data⟩ (by simp) rfl) rfl _ rfl _ rfl
                have q62 := hJ.is hT (hdep ⟨35, .data⟩ (by simp) rfl) rfl _ rfl _ rfl
                have hord : ∀ x ∈ ([] : List (Nat × Nat)), x.1 = 36 → listed.getD x.2 false = true := by simp
                rw [Array.getD_eq_getD_getElem?] at q60
                rw [Array.getD_eq_getD_getElem?] at q62
                clear hsz hdep hout hlat
                go_simp
                exact hK _ _ (hJ.next (by rw [hls]; decide) (by rw [hT]; first | rfl | exact congrArg (Value.int .i64) (by omega) | exact congrArg (Value.int .i64) (by rw [IntKind.wrap_i64]; omega) | exact congrArg Value.bool (decide_eq_false (by omega)) | exact congrArg Value.bool (decide_eq_true (by omega)) | exact congrArg (Value.int .u64) (by omega)) hJ.st hord)
              · have ddg := hdep ⟨30, .guard⟩ (by simp) rfl
                have kg := ddg.2 _ rfl _ rfl
                have hg := hJ.vals 30 ddg.1
                rw [hT] at hg
                rw [show f 30 = .bool false from hg] at kg
                clear hg ddg
                rw [if_pos (wanted_of rfl rfl rfl kg)]
                clear kg
                intro K hK
                have q63 := hJ.is hT (hdep ⟨36, .data⟩ (by simp) rfl) rfl _ rfl _ rfl
                have hord : ∀ x ∈ ([] : List (Nat × Nat)), x.1 = 37 → listed.getD x.2 false = true := by simp
                refine wp_mv _ rfl (hK _ _ ?_)
                rw [show a.eval (.tmp 63) = .bool false from q63]
                exact hJ.next (by rw [hls]; decide) (by rw [hT]; rfl) hJ.st hord
              · have ddg := hdep ⟨37, .guard⟩ (by simp) rfl
                have kg := ddg.2 _ rfl _ rfl
                have hg := hJ.vals 37 ddg.1
                rw [hT] at hg
                rw [show f 37 = .bool false from hg] at kg
                clear hg ddg
                have hord : ∀ x ∈ ([] : List (Nat × Nat)), x.1 = 38 → listed.getD x.2 false = true := by simp
                rw [if_neg (not_wanted rfl rfl rfl kg (by decide))]
                exact hJ.next (by rw [hls]; decide) (by rw [hT]; first | exact trivial | rfl) hJ.st hord
              · have ddg := hdep ⟨37, .guard⟩ (by simp) rfl
                have kg := ddg.2 _ rfl _ rfl
                have hg := hJ.vals 37 ddg.1
                rw [hT] at hg
                rw [show f 37 = .bool false from hg] at kg
                clear hg ddg
                have hord : ∀ x ∈ ([] : List (Nat × Nat)), x.1 = 39 → listed.getD x.2 false = true := by simp
                rw [if_neg (not_wanted rfl rfl rfl kg (by decide))]
                exact hJ.next (by rw [hls]; decide) (by rw [hT]; first | exact trivial | rfl) hJ.st hord
              · have ddg := hdep ⟨37, .guard⟩ (by simp) rfl
                have kg := ddg.2 _ rfl _ rfl
                have hg := hJ.vals 37 ddg.1
                rw [hT] at hg
                rw [show f 37 = .bool false from hg] at kg
                clear hg ddg
                have hord : ∀ x ∈ ([] : List (Nat × Nat)), x.1 = 40 → listed.getD x.2 false = true := by simp
                rw [if_neg (not_wanted rfl rfl rfl kg (by decide))]
                exact hJ.next (by rw [hls]; decide) (by rw [hT]; first | exact trivial | rfl) hJ.st hord
              · have ddg := hdep ⟨30, .guard⟩ (by simp) rfl
                have kg := ddg.2 _ rfl _ rfl
                have hg := hJ.vals 30 ddg.1
                rw [hT] at hg
                rw [show f 30 = .bool false from hg] at kg
                clear hg ddg
                rw [if_pos (wanted_of rfl rfl rfl kg)]
                clear kg
                intro K hK
                have q64 := hJ.is hT (hdep ⟨37, .data⟩ (by simp) rfl) rfl _ rfl _ rfl
                have q67 := hJ.is hT (hdep ⟨40, .data⟩ (by simp) rfl) rfl _ rfl _ rfl
                have hord : ∀ x ∈ ([] : List (Nat × Nat)), x.1 = 41 → listed.getD x.2 false = true := by simp
                rw [Array.getD_eq_getD_getElem?] at q64
                rw [Array.getD_eq_getD_getElem?] at q67
                clear hsz hdep hout hlat
                go_simp
                exact hK _ _ (hJ.next (by rw [hls]; decide) (by rw [hT]; first | rfl | exact congrArg (Value.int .i64) (by omega) | exact congrArg (Value.int .i64) (by rw [IntKind.wrap_i64]; omega) | exact congrArg Value.bool (decide_eq_false (by omega)) | exact congrArg Value.bool (decide_eq_true (by omega)) | exact congrArg (Value.int .u64) (by omega)) hJ.st hord)
              have q57 := hJ.is hT (hdep ⟨30, .data⟩ (by simp) rfl) rfl _ rfl _ rfl
              have q68 := hJ.is hT (hdep ⟨41, .data⟩ (by simp) rfl) rfl _ rfl _ rfl
              have hord : ∀ x ∈ ([] : List (Nat × Nat)), x.1 = 42 → listed.getD x.2 false = true := by simp
              rw [Array.getD_eq_getD_getElem?] at q57
              rw [Array.getD_eq_getD_getElem?] at q68
              clear hsz hdep hout hlat
              go_simp
              exact hK _ _ (hJ.next (by rw [hls]; decide) (by rw [hT]; first | rfl | exact congrArg (Value.int .i64) (by omega) | exact congrArg (Value.int .i64) (by rw [IntKind.wrap_i64]; omega) | exact congrArg Value.bool (decide_eq_false (by omega)) | exact congrArg Value.bool (decide_eq_true (by omega)) | exact congrArg (Value.int .u64) (by omega)) hJ.st hord)
            intro listed f w7 hall hJ
            have f42 : f 42 = .bool false := by
              have h := hJ.vals 42 (hall 42 (by simp))
              rw [hT] at h; exact h
            have hst := hJ.st
            simp only [putAll, Act.put, List.setIfInBounds_toArray, List.set_cons_zero, List.set_cons_succ, Nat.zero_add, Nat.reduceAdd]
            have X7 : Hid (Ex w6 w7) := Lib.hid hst
            clear hst hS0
            rw [f42]
            clear f42
            clear hJ hall hT
            generalize f 0 = y0
            generalize f 1 = y1
            generalize f 2 = y2
            generalize f 3 = y3
            generalize f 4 = y4
            generalize f 5 = y5
            generalize f 6 = y6
            generalize f 7 = y7
            generalize f 8 = y8
            generalize f 9 = y9
            generalize f 10 = y10
            generalize f 11 = y11
            generalize f 12 = y12
            generalize f 13 = y13
            generalize f 14 = y14
            generalize f 15 = y15
            generalize f 16 = y16
            generalize f 17 = y17
            generalize f 18 = y18
            generalize f 19 = y19
            generalize f 20 = y20
            generalize f 21 = y21
            generalize f 22 = y22
            generalize f 23 = y23
            generalize f 24 = y24
            generalize f 25 = y25
            generalize f 26 = y26
            generalize f 27 = y27
            generalize f 28 = y28
            generalize f 29 = y29
            generalize f 30 = y30
            generalize f 31 = y31
            generalize f 32 = y32
            generalize f 33 = y33
            generalize f 34 = y34
            generalize f 35 = y35
            generalize f 36 = y36
            generalize f 37 = y37
            generalize f 38 = y38
            generalize f 39 = y39
            generalize f 40 = y40
            generalize f 41 = y41
            go_wp2_with fail
            go_meet
            case rel => exact ⟨rfl, X7⟩
          obtain rfl : zl = true := HAB.out (Or.inr rfl)
          have hS0 : ∀ (listed : Array Bool) (f : Nat → Value), (∀ i, listed.getD i false = false) → Ex w6 w6.drew := fun _ _ _ => (Below.refl w6.heap.size w6).drew
          obtain ⟨T, hT⟩ : ∃ T : List (Value → Prop), T = [(fun zz => zz = digV id), (fun zz => zz = .int .u64 gen), (fun zz => zz = .slice adl (na + nb) capl), (fun zz => zz = .int .i64 ((wa : Int) + (wb : Int))), (fun zz => zz = digV id), (fun zz => zz = .int .u64 gen), (fun zz => zz = .slice ada na capa), (fun zz => zz = .int .i64 (wa : Int)), (fun zz => zz = digV id), (fun zz => zz = .int .u64 gen), (fun zz => zz = .slice adb nb capb), (fun zz => zz = .int .i64 (wb : Int)), (fun zz => zz = .int .i64 ((wa : Int) + (wb : Int))), (fun zz => zz = .bool false), (fun zz => zz = .bool false), (fun zz => zz = digV id), (fun zz => zz = .int .u64 gen), (fun zz => zz = .slice adl (na + nb) capl), (fun zz => zz = .int .i64 ((ta : Int) + (tb : Int))), (fun zz => zz = digV id), (fun zz => zz = .int .u64 gen), (fun zz => zz = .slice ada na capa), (fun zz => zz = .int .i64 (ta : Int)), (fun zz => zz = digV id), (fun zz => zz = .int .u64 gen), (fun zz => zz = .slice adb nb capb), (fun zz => zz = .int .i64 (tb : Int)), (fun zz => zz = .int .i64 ((ta : Int) + (tb : Int))), (fun zz => zz = .bool false), (fun zz => zz = .bool false), (fun zz => zz = .bool false), (fun zz => zz = .slice ada na capa), (fun zz => zz = .bool false), (fun zz => zz = .bool false), (fun zz => zz = .slice adb nb capb), (fun zz => zz = .bool true), (fun zz => zz = .bool true), (fun zz => zz = .bool true), (fun zz => zz = .slice adl (na + nb) capl), (fun zz => zz = .bool true), (fun zz => zz = .bool false), (fun zz => zz = .bool false), (fun zz => zz = .bool false)] := ⟨_, rfl⟩
          refine wp_region_gen (JS T ([] : List (Nat × Nat)) (fun _ _ wq => Ex w6 wq)) (by kernel_rfl) (by kernel_rfl) (by kernel_rfl) (fitB_spec (by kernel_rfl)) (fun listed f h => JS.start listed f h (hS0 listed f h)) ?_ ?_
          · intro i o ho
            have hi : i < 43 := (Array.getElem?_eq_some_iff.1 ho).1
            have hi' : i = 0 ∨ i = 1 ∨ i = 2 ∨ i = 3 ∨ i = 4 ∨ i = 5 ∨ i = 6 ∨ i = 7 ∨ i = 8 ∨ i = 9 ∨ i = 10 ∨ i = 11 ∨ i = 12 ∨ i = 13 ∨ i = 14 ∨ i = 15 ∨ i = 16 ∨ i = 17 ∨ i = 18 ∨ i = 19 ∨ i = 20 ∨ i = 21 ∨ i = 22 ∨ i = 23 ∨ i = 24 ∨ i = 25 ∨ i = 26 ∨ i = 27 ∨ i = 28 ∨ i = 29 ∨ i = 30 ∨ i = 31 ∨ i = 32 ∨ i = 33 ∨ i = 34 ∨ i = 35 ∨ i = 36 ∨ i = 37 ∨ i = 38 ∨ i = 39 ∨ i = 40 ∨ i = 41 ∨ i = 42 := by omega
            clear hi
            rcases hi' with rfl | rfl | rfl | rfl | rfl | rfl | rfl | rfl | rfl | rfl | rfl | rfl | rfl | rfl | rfl | rfl | rfl | rfl | rfl | rfl | rfl | rfl | rfl | rfl | rfl | rfl | rfl | rfl | rfl | rfl | rfl | rfl | rfl | rfl | rfl | rfl | rfl | rfl | rfl | rfl | rfl | rfl | rfl
            all_goals (simp only [List.getElem?_toArray, List.getElem?_cons_zero, List.getElem?_cons_succ, Option.some.injEq] at ho; subst ho; intro listed f a w7 hJ hsz hls hun hdep hout hlat; first | (rw [if_pos (by rfl)]; intro K hK) | skip)
            · have q6 := hout 6 (outB_spec (by kernel_rfl))
              have hord : ∀ x ∈ ([] : List (Nat × Nat)), x.1 = 0 → listed.getD x.2 false = true := by simp
              exact ld_ib _ B id HID.out rfl q6 (I0.out.ext hJ.st) (hK _ _ (hJ.next (by rw [hls]; decide) (by rw [hT]; rfl) hJ.st hord))
            · have q3 := hout 3 (outB_spec (by kernel_rfl))
              have hord : ∀ x ∈ ([] : List (Nat × Nat)), x.1 = 1 → listed.getD x.2 false = true := by simp
              refine wp_mv _ rfl (hK _ _ ?_)
              rw [show a.eval (.tmp 3) = .int .u64 gen from q3]
              exact hJ.next (by rw [hls]; decide) (by rw [hT]; rfl) hJ.st hord
            · have q9 := hout 9 (outB_spec (by kernel_rfl))
              have hord : ∀ x ∈ ([] : List (Nat × Nat)), x.1 = 2 → listed.getD x.2 false = true := by simp
              refine wp_mv _ rfl (hK _ _ ?_)
              rw [show a.eval (.tmp 9) = .slice adl (na + nb) capl from q9]
              exact hJ.next (by rw [hls]; decide) (by rw [hT]; rfl) hJ.st hord
            · have q27 := hJ.is hT (hdep ⟨0, .data⟩ (by simp) rfl) rfl _ rfl _ rfl
              have q28 := hJ.is hT (hdep ⟨1, .data⟩ (by simp) rfl) rfl _ rfl _ rfl
              have q29 := hJ.is hT (hdep ⟨2, .data⟩ (by simp) rfl) rfl _ rfl _ rfl
              have hord : ∀ x ∈ ([] : List (Nat × Nat)), x.1 = 3 → listed.getD x.2 false = true := by simp
              rw [Array.getD_eq_getD_getElem?] at q27
              rw [Array.getD_eq_getD_getElem?] at q28
              rw [Array.getD_eq_getD_getElem?] at q29
              have hst := hJ.st
              clear hsz hdep hout hlat
              go_simp
              refine (C1.out w7 hst).mono ?_
              rintro e wq ⟨rfl, xq⟩
              exact hK _ _ (hJ.next (by rw [hls]; decide) (by rw [hT]; first | rfl | exact congrArg (Value.int .i64) (by omega)) (Ex.trans hst xq) hord)
            · have q6 := hout 6 (outB_spec (by kernel_rfl))
              have hord : ∀ x ∈ ([] : List (Nat × Nat)), x.1 = 4 → listed.getD x.2 false = true := by simp
              exact ld_ib _ B id HID.out rfl q6 (I0.out.ext hJ.st) (hK _ _ (hJ.next (by rw [hls]; decide) (by rw [hT]; rfl) hJ.st hord))
            · have q3 := hout 3 (outB_spec (by kernel_rfl))
              have hord : ∀ x ∈ ([] : List (Nat × Nat)), x.1 = 5 → listed.getD x.2 false = true := by simp
              refine wp_mv _ rfl (hK _ _ ?_)
              rw [show a.eval (.tmp 3) = .int .u64 gen from q3]
              exact hJ.next (by rw [hls]; decide) (by rw [hT]; rfl) hJ.st hord
            · have q0 := hout 0 (outB_spec (by kernel_rfl))
              have hord : ∀ x ∈ ([] : List (Nat × Nat)), x.1 = 6 → listed.getD x.2 false = true := by simp
              refine wp_mv _ rfl (hK _ _ ?_)
              rw [show a.eval (.tmp 0) = .slice ada na capa from q0]
              exact hJ.next (by rw [hls]; decide) (by rw [hT]; rfl) hJ.st hord
            · have q31 := hJ.is hT (hdep ⟨4, .data⟩ (by simp) rfl) rfl _ rfl _ rfl
              have q32 := hJ.is hT (hdep ⟨5, .data⟩ (by simp) rfl) rfl _ rfl _ rfl
              have q33 := hJ.is hT (hdep ⟨6, .data⟩ (by simp) rfl) rfl _ rfl _ rfl
              have hord : ∀ x ∈ ([] : List (Nat × Nat)), x.1 = 7 → listed.getD x.2 false = true := by simp
              rw [Array.getD_eq_getD_getElem?] at q31
              rw [Array.getD_eq_getD_getElem?] at q32
              rw [Array.getD_eq_getD_getElem?] at q33
              have hst := hJ.st
              clear hsz hdep hout hlat
              go_simp
              refine (C2.out w7 hst).mono ?_
              rintro e wq ⟨rfl, xq⟩
              exact hK _ _ (hJ.next (by rw [hls]; decide) (by rw [hT]; rfl) (Ex.trans hst xq) hord)
            · have q6 := hout 6 (outB_spec (by kernel_rfl))
              have hord : ∀ x ∈ ([] : List (Nat × Nat)), x.1 = 8 → listed.getD x.2 false = true := by simp
              exact ld_ib _ B id HID.out rfl q6 (I0.out.ext hJ.st) (hK _ _ (hJ.next (by rw [hls]; decide) (by rw [hT]; rfl) hJ.st hord))
            · have q3 := hout 3 (outB_spec (by kernel_rfl))
              have hord : ∀ x ∈ ([] : List (Nat × Nat)), x.1 = 9 → listed.getD x.2 false = true := by simp
              refine wp_mv _ rfl (hK _ _ ?_)
              rw [show a.eval (.tmp 3) = .int .u64 gen from q3]
              exact hJ.next (by rw [hls]; decide) (by rw [hT]; rfl) hJ.st hord
            · have q1 := hout 1 (outB_spec (by kernel_rfl))
              have hord : ∀ x ∈ ([] : List (Nat × Nat)), x.1 = 10 → listed.getD x.2 false = true := by simp
              refine wp_mv _ rfl (hK _ _ ?_)
              rw [show a.eval (.tmp 1) = .slice adb nb capb from q1]
              exact hJ.next (by rw [hls]; decide) (by rw [hT]; rfl) hJ.st hord
            · have q35 := hJ.is hT (hdep ⟨8, .data⟩ (by simp) rfl) rfl _ rfl _ rfl
              have q36 := hJ.is hT (hdep ⟨9, .data⟩ (by simp) rfl) rfl _ rfl _ rfl
              have q37 := hJ.is hT (hdep ⟨10, .data⟩ (by simp) rfl) rfl _ rfl _ rfl
              have hord : ∀ x ∈ ([] : List (Nat × Nat)), x.1 = 11 → listed.getD x.2 false = true := by simp
              rw [Array.getD_eq_getD_getElem?] at q35
              rw [Array.getD_eq_getD_getElem?] at q36
              rw [Array.getD_eq_getD_getElem?] at q37
              have hst := hJ.st
              clear hsz hdep hout hlat
              go_simp
              refine (C3.out w7 hst).mono ?_
              rintro e wq ⟨rfl, xq⟩
              exact hK _ _ (hJ.next (by rw [hls]; decide) (by rw [hT]; rfl) (Ex.trans hst xq) hord)
            · have q34 := hJ.is hT (hdep ⟨7, .data⟩ (by simp) rfl) rfl _ rfl _ rfl
              have q38 := hJ.is hT (hdep ⟨11, .data⟩ (by simp) rfl) rfl _ rfl _ rfl
              have hord : ∀ x ∈ ([] : List (Nat × Nat)), x.1 = 12 → listed.getD x.2 false = true := by simp
              rw [Array.getD_eq_getD_getElem?] at q34
              rw [Array.getD_eq_getD_getElem?] at q38
              have hw : IntKind.i64.wrap ((wa : Int) + (wb : Int)) = (wa : Int) + (wb : Int) := by rw [IntKind.wrap_i64]; omega
              clear hsz hdep hout hlat
              go_simp
              exact hK _ _ (hJ.next (by rw [hls]; decide) (by rw [hT]; first | rfl | exact congrArg (Value.int .i64) hw) hJ.st hord)
            · have q30 := hJ.is hT (hdep ⟨3, .data⟩ (by simp) rfl) rfl _ rfl _ rfl
              have q39 := hJ.is hT (hdep ⟨12, .data⟩ (by simp) rfl) rfl _ rfl _ rfl
              have hord : ∀ x ∈ ([] : List (Nat × Nat)), x.1 = 13 → listed.getD x.2 false = true := by simp
              rw [Array.getD_eq_getD_getElem?] at q30
              rw [Array.getD_eq_getD_getElem?] at q39
              clear hsz hdep hout hlat
              go_simp
              exact hK _ _ (hJ.next (by rw [hls]; decide) (by rw [hT]; first | rfl | simp) hJ.st hord)
            · have q40 := hJ.is hT (hdep ⟨13, .data⟩ (by simp) rfl) rfl _ rfl _ rfl
              have hord : ∀ x ∈ ([] : List (Nat × Nat)), x.1 = 14 → listed.getD x.2 false = true := by simp
              refine wp_mv _ rfl (hK _ _ ?_)
              rw [show a.eval (.tmp 40) = .bool false from q40]
              exact hJ.next (by rw [hls]; decide) (by rw [hT]; rfl) hJ.st hord
            · have ddg := hdep ⟨14, .guard⟩ (by simp) rfl
              have kg := ddg.2 _ rfl _ rfl
              have hg := hJ.vals 14 ddg.1
              rw [hT] at hg
              rw [show f 14 = .bool false from hg] at kg
              clear hg ddg
              rw [if_pos (wanted_of rfl rfl rfl kg)]
              clear kg
              intro K hK
              have q6 := hout 6 (outB_spec (by kernel_rfl))
              have hord : ∀ x ∈ ([] : List (Nat × Nat)), x.1 = 15 → listed.getD x.2 false = true := by simp
              exact ld_ib _ B id HID.out rfl q6 (I0.out.ext hJ.st) (hK _ _ (hJ.next (by rw [hls]; decide) (by rw [hT]; rfl) hJ.st hord))
            · have ddg := hdep ⟨14, .guard⟩ (by simp) rfl
              have kg := ddg.2 _ rfl _ rfl
              have hg := hJ.vals 14 ddg.1
              rw [hT] at hg
              rw [show f 14 = .bool false from hg] at kg
              clear hg ddg
              rw [if_pos (wanted_of rfl rfl rfl kg)]
              clear kg
              intro K hK
              have q3 := hout 3 (outB_spec (by kernel_rfl))
              have hord : ∀ x ∈ ([] : List (Nat × Nat)), x.1 = 16 → listed.getD x.2 false = true := by simp
              refine wp_mv _ rfl (hK _ _ ?_)
              rw [show a.eval (.tmp 3) = .int .u64 gen from q3]
              exact hJ.next (by rw [hls]; decide) (by rw [hT]; rfl) hJ.st hord
            · have ddg := hdep ⟨14, .guard⟩ (by simp) rfl
              have kg := ddg.2 _ rfl _ rfl
              have hg := hJ.vals 14 ddg.1
              rw [hT] at hg
              rw [show f 14 = .bool false from hg] at kg
              clear hg ddg
              rw [if_pos (wanted_of rfl rfl rfl kg)]
              clear kg
              intro K hK
              have q9 := hout 9 (outB_spec (by kernel_rfl))
              have hord : ∀ x ∈ ([] : List (Nat × Nat)), x.1 = 17 → listed.getD x.2 false = true := by simp
              refine wp_mv _ rfl (hK _ _ ?_)
              rw [show a.eval (.tmp 9) = .slice adl (na + nb) capl from q9]
              exact hJ.next (by rw [hls]; decide) (by rw [hT]; rfl) hJ.st hord
            · have ddg := hdep ⟨14, .guard⟩ (by simp) rfl
              have kg := ddg.2 _ rfl _ rfl
              have hg := hJ.vals 14 ddg.1
              rw [hT] at hg
              rw [show f 14 = .bool false from hg] at kg
              clear hg ddg
              rw [if_pos (wanted_of rfl rfl rfl kg)]
              clear kg
              intro K hK
              have q42 := hJ.is hT (hdep ⟨15, .data⟩ (by simp) rfl) rfl _ rfl _ rfl
              have q43 := hJ.is hT (hdep ⟨16, .data⟩ (by simp) rfl) rfl _ rfl _ rfl
              have q44 := hJ.is hT (hdep ⟨17, .data⟩ (by simp) rfl) rfl _ rfl _ rfl
              have hord : ∀ x ∈ ([] : List (Nat × Nat)), x.1 = 18 → listed.getD x.2 false = true := by simp
              rw [Array.getD_eq_getD_getElem?] at q42
              rw [Array.getD_eq_getD_getElem?] at q43
              rw [Array.getD_eq_getD_getElem?] at q44
              have hst := hJ.st
              clear hsz hdep hout hlat
              go_simp
              refine (C4.out w7 hst).mono ?_
              rintro e wq ⟨rfl, xq⟩
              exact hK _ _ (hJ.next (by rw [hls]; decide) (by rw [hT]; first | rfl | exact congrArg (Value.int .i64) (by omega)) (Ex.trans hst xq) hord)
            · have ddg := hdep ⟨14, .guard⟩ (by simp) rfl
              have kg := ddg.2 _ rfl _ rfl
              have hg := hJ.vals 14 ddg.1
              rw [hT] at hg
              rw [show f 14 = .bool false from hg] at kg
              clear hg ddg
              rw [if_pos (wanted_of rfl rfl rfl kg)]
              clear kg
              intro K hK
              have q6 := hout 6 (outB_spec (by kernel_rfl))
              have hord : ∀ x ∈ ([] : List (Nat × Nat)), x.1 = 19 → listed.getD x.2 false = true := by simp
              exact ld_ib _ B id HID.out rfl q6 (I0.out.ext hJ.st) (hK _ _ (hJ.next (by rw [hls]; decide) (by rw [hT]; rfl) hJ.st hord))
            · have ddg := hdep ⟨14, .guard⟩ (by simp) rfl
              have kg := ddg.2 _ rfl _ rfl
              have hg := hJ.vals 14 ddg.1
              rw [hT] at hg
              rw [show f 14 = .bool false from hg] at kg
              clear hg ddg
              rw [if_pos (wanted_of rfl rfl rfl kg)]
              clear kg
              intro K hK
              have q3 := hout 3 (outB_spec (by kernel_rfl))
              have hord : ∀ x ∈ ([] : List (Nat × Nat)), x.1 = 20 → listed.getD x.2 false = true := by simp
              refine wp_mv _ rfl (hK _ _ ?_)
              rw [show a.eval (.tmp 3) = .int .u64 gen from q3]
              exact hJ.next (by rw [hls]; decide) (by rw [hT]; rfl) hJ.st hord
            · have ddg := hdep ⟨14, .guard⟩ (by simp) rfl
              have kg := ddg.2 _ rfl _ rfl
              have hg := hJ.vals 14 ddg.1
              rw [hT] at hg
              rw [show f 14 = .bool false from hg] at kg
              clear hg ddg
              rw [if_pos (wanted_of rfl rfl rfl kg)]
              clear kg
              intro K hK
              have q0 := hout 0 (outB_spec (by kernel_rfl))
              have hord : ∀ x ∈ ([] : List (Nat × Nat)), x.1 = 21 → listed.getD x.2 false = true := by simp
              refine wp_mv _ rfl (hK _ _ ?_)
              rw [show a.eval (.tmp 0) = .slice ada na capa from q0]
              exact hJ.next (by rw [hls]; decide) (by rw [hT]; rfl) hJ.st hord
            · have ddg := hdep ⟨14, .guard⟩ (by simp) rfl
              have kg := ddg.2 _ rfl _ rfl
              have hg := hJ.vals 14 ddg.1
              rw [hT] at hg
              rw [show f 14 = .bool false from hg] at kg
              clear hg ddg
              rw [if_pos (wanted_of rfl rfl rfl kg)]
              clear kg
              intro K hK
              have q46 := hJ.is hT (hdep ⟨19, .data⟩ (by simp) rfl) rfl _ rfl _ rfl
              have q47 := hJ.is hT (hdep ⟨20, .data⟩ (by simp) rfl) rfl _ rfl _ rfl
              have q48 := hJ.is hT (hdep ⟨21, .data⟩ (by simp) rfl) rfl _ rfl _ rfl
              have hord : ∀ x ∈ ([] : List (Nat × Nat)), x.1 = 22 → listed.getD x.2 false = true := by simp
              rw [Array.getD_eq_getD_getElem?] at q46
              rw [Array.getD_eq_getD_getElem?] at q47
              rw [Array.getD_eq_getD_getElem?] at q48
              have hst := hJ.st
              clear hsz hdep hout hlat
              go_simp
              refine (C5.out w7 hst).mono ?_
              rintro e wq ⟨rfl, xq⟩
              exact hK _ _ (hJ.next (by rw [hls]; decide) (by rw [hT]; rfl) (Ex.trans hst xq) hord)
            · have ddg := hdep ⟨14, .guard⟩ (by simp) rfl
              have kg := ddg.2 _ rfl _ rfl
              have hg := hJ.vals 14 ddg.1
              rw [hT] at hg
              rw [show f 14 = .bool false from hg] at kg
              clear hg ddg
              rw [if_pos (wanted_of rfl rfl rfl kg)]
              clear kg
              intro K hK
              have q6 := hout 6 (outB_spec (by kernel_rfl))
              have hord : ∀ x ∈ ([] : List (Nat × Nat)), x.1 = 23 → listed.getD x.2 false = true := by simp
              exact ld_ib _ B id HID.out rfl q6 (I0.out.ext hJ.st) (hK _ _ (hJ.next (by rw [hls]; decide) (by rw [hT]; rfl) hJ.st hord))
            · have ddg := hdep ⟨14, .guard⟩ (by simp) rfl
              have kg := ddg.2 _ rfl _ rfl
              have hg := hJ.vals 14 ddg.1
              rw [hT] at hg
              rw [show f 14 = .bool false from hg] at kg
              clear hg ddg
              rw [if_pos (wanted_of rfl rfl rfl kg)]
              clear kg
              intro K hK
              have q3 := hout 3 (outB_spec (by kernel_rfl))
              have hord : ∀ x ∈ ([] : List (Nat × Nat)), x.1 = 24 → listed.getD x.2 false = true := by simp
              refine wp_mv _ rfl (hK _ _ ?_)
              rw [show a.eval (.tmp 3) = .int .u64 gen from q3]
              exact hJ.next (by rw [hls]; decide) (by rw [hT]; rfl) hJ.st hord
            · have ddg := hdep ⟨14, .guard⟩ (by simp) rfl
              have kg := ddg.2 _ rfl _ rfl
              have hg := hJ.vals 14 ddg.1
              rw [hT] at hg
              rw [show f 14 = .bool false from hg] at kg
              clear hg ddg
              rw [if_pos (wanted_of rfl rfl rfl kg)]
              clear kg
              intro K hK
              have q1 := hout 1 (outB_spec (by kernel_rfl))
              have hord : ∀ x ∈ ([] : List (Nat × Nat)), x.1 = 25 → listed.getD x.2 false = true := by simp
              refine wp_mv _ rfl (hK _ _ ?_)
              rw [show a.eval (.tmp 1) = .slice adb nb capb from q1]
              exact hJ.next (by rw [hls]; decide) (by rw [hT]; rfl) hJ.st hord
            · have ddg := hdep ⟨14, .guard⟩ (by simp) rfl
              have kg := ddg.2 _ rfl _ rfl
              have hg := hJ.vals 14 ddg.1
              rw [hT] at hg
              rw [show f 14 = .bool false from hg] at kg
              clear hg ddg
              rw [if_pos (wanted_of rfl rfl rfl kg)]
              clear kg
              intro K hK
              have q50 := hJ.is hT (hdep ⟨23, .data⟩ (by simp) rfl) rfl _ rfl _ rfl
              have q51 := hJ.is hT (hdep ⟨24, .data⟩ (by simp) rfl) rfl _ rfl _ rfl
              have q52 := hJ.is hT (hdep ⟨25, .data⟩ (by simp) rfl) rfl _ rfl _ rfl
              have hord : ∀ x ∈ ([] : List (Nat × Nat)), x.1 = 26 → listed.getD x.2 false = true := by simp
              rw [Array.getD_eq_getD_getElem?] at q50
              rw [Array.getD_eq_getD_getElem?] at q51
              rw [Array.getD_eq_getD_getElem?] at q52
              have hst := hJ.st
              clear hsz hdep hout hlat
              go_simp
              refine (C6.out w7 hst).mono ?_
              rintro e wq ⟨rfl, xq⟩
              exact hK _ _ (hJ.next (by rw [hls]; decide) (by rw [hT]; rfl) (Ex.trans hst xq) hord)
            · have ddg := hdep ⟨14, .guard⟩ (by simp) rfl
              have kg := ddg.2 _ rfl _ rfl
              have hg := hJ.vals 14 ddg.1
              rw [hT] at hg
              rw [show f 14 = .bool false from hg] at kg
              clear hg ddg
              rw [if_pos (wanted_of rfl rfl rfl kg)]
              clear kg
              intro K hK
              have q49 := hJ.is hT (hdep ⟨22, .data⟩ (by simp) rfl) rfl _ rfl _ rfl
              have q53 := hJ.is hT (hdep ⟨26, .data⟩ (by simp) rfl) rfl _ rfl _ rfl
              have hord : ∀ x ∈ ([] : List (Nat × Nat)), x.1 = 27 → listed.getD x.2 false = true := by simp
              rw [Array.getD_eq_getD_getElem?] at q49
              rw [Array.getD_eq_getD_getElem?] at q53
              have hw : IntKind.i64.wrap ((ta : Int) + (tb : Int)) = (ta : Int) + (tb : Int) := by rw [IntKind.wrap_i64]; omega
              clear hsz hdep hout hlat
              go_simp
              exact hK _ _ (hJ.next (by rw [hls]; decide) (by rw [hT]; first | rfl | exact congrArg (Value.int .i64) hw) hJ.st hord)
            · have ddg := hdep ⟨14, .guard⟩ (by simp) rfl
              have kg := ddg.2 _ rfl _ rfl
              have hg := hJ.vals 14 ddg.1
              rw [hT] at hg
              rw [show f 14 = .bool false from hg] at kg
              clear hg ddg
              rw [if_pos (wanted_of rfl rfl rfl kg)]
              clear kg
              intro K hK
              have q45 := hJ.is hT (hdep ⟨18, .data⟩ (by simp) rfl) rfl _ rfl _ rfl
              have q54 := hJ.is hT (hdep ⟨27, .data⟩ (by simp) rfl) rfl _ rfl _ rfl
              have hord : ∀ x ∈ ([] : List (Nat × Nat)), x.1 = 28 → listed.getD x.2 false = true := by simp
              rw [Array.getD_eq_getD_getElem?] at q45
              rw [Array.getD_eq_getD_getElem?] at q54
              clear hsz hdep hout hlat
              go_simp
              exact hK _ _ (hJ.next (by rw [hls]; decide) (by rw [hT]; first | rfl | simp) hJ.st hord)
            · have q41 := hJ.is hT (hdep ⟨14, .data⟩ (by simp) rfl) rfl _ rfl _ rfl
              have q55 := hJ.is hT (hdep ⟨28, .data⟩ (by simp) rfl) rfl _ rfl _ rfl
              have hord : ∀ x ∈ ([] : List (Nat × Nat)), x.1 = 29 → listed.getD x.2 false = true := by simp
              rw [Array.getD_eq_getD_getElem?] at q41
              rw [Array.getD_eq_getD_getElem?] at q55
              clear hsz hdep hout hlat
              go_simp
              exact hK _ _ (hJ.next (by rw [hls]; decide) (by rw [hT]; first | rfl | exact congrArg (Value.int .i64) (by omega) | exact congrArg (Value.int .i64) (by rw [IntKind.wrap_i64]; omega) | exact congrArg Value.bool (decide_eq_false (by omega)) | exact congrArg Value.bool (decide_eq_true (by omega)) | exact congrArg (Value.int .u64) (by omega)) hJ.st hord)
            · have q56 := hJ.is hT (hdep ⟨29, .data⟩ (by simp) rfl) rfl _ rfl _ rfl
              have hord : ∀ x ∈ ([] : List (Nat × Nat)), x.1 = 30 → listed.getD x.2 false = true := by simp
              refine wp_mv _ rfl (hK _ _ ?_)
              rw [show a.eval (.tmp 56) = .bool false from q56]
              exact hJ.next (by rw [hls]; decide) (by rw [hT]; rfl) hJ.st hord
            · have ddg := hdep ⟨30, .guard⟩ (by simp) rfl
              have kg := ddg.2 _ rfl _ rfl
              have hg := hJ.vals 30 ddg.1
              rw [hT] at hg
              rw [show f 30 = .bool false from hg] at kg
              clear hg ddg
              rw [if_pos (wanted_of rfl rfl rfl kg)]
              clear kg
              intro K hK
              have q0 := hout 0 (outB_spec (by kernel_rfl))
              have hord : ∀ x ∈ ([] : List (Nat × Nat)), x.1 = 31 → listed.getD x.2 false = true := by simp
              refine wp_mv _ rfl (hK _ _ ?_)
              rw [show a.eval (.tmp 0) = .slice ada na capa from q0]
              exact hJ.next (by rw [hls]; decide) (by rw [hT]; rfl) hJ.st hord
            · have ddg := hdep ⟨30, .guard⟩ (by simp) rfl
              have kg := ddg.2 _ rfl _ rfl
              have hg := hJ.vals 30 ddg.1
              rw [hT] at hg
              rw [show f 30 = .bool false from hg] at kg
              clear hg ddg
              rw [if_pos (wanted_of rfl rfl rfl kg)]
              clear kg
              intro K hK
              have q58 := hJ.is hT (hdep ⟨31, .data⟩ (by simp) rfl) rfl _ rfl _ rfl
              have hord : ∀ x ∈ ([] : List (Nat × Nat)), x.1 = 32 → listed.getD x.2 false = true := by simp
              rw [Array.getD_eq_getD_getElem?] at q58
              have hst := hJ.st
              clear hsz hdep hout hlat
              go_simp
              refine (C8.out w7 hst).mono ?_
              rintro e wq ⟨rfl, xq⟩
              exact hK _ _ (hJ.next (by rw [hls]; decide) (by rw [hT]; rfl) (Ex.trans hst xq) hord)
            · have ddg := hdep ⟨30, .guard⟩ (by simp) rfl
              have kg := ddg.2 _ rfl _ rfl
              have hg := hJ.vals 30 ddg.1
              rw [hT] at hg
              rw [show f 30 = .bool false from hg] at kg
              clear hg ddg
              rw [if_pos (wanted_of rfl rfl rfl kg)]
              clear kg
              intro K hK
              have q59 := hJ.is hT (hdep ⟨32, .data⟩ (by simp) rfl) rfl _ rfl _ rfl
              have hord : ∀ x ∈ ([] : List (Nat × Nat)), x.1 = 33 → listed.getD x.2 false = true := by simp
              refine wp_mv _ rfl (hK _ _ ?_)
              rw [show a.eval (.tmp 59) = .bool false from q59]
              exact hJ.next (by rw [hls]; decide) (by rw [hT]; rfl) hJ.st hord
            · have ddg := hdep ⟨33, .guard⟩ (by simp) rfl
              have kg := ddg.2 _ rfl _ rfl
              have hg := hJ.vals 33 ddg.1
              rw [hT] at hg
              rw [show f 33 = .bool false from hg] at kg
              clear hg ddg
              rw [if_pos (wanted_of rfl rfl rfl kg)]
              clear kg
              intro K hK
              have q1 := hout 1 (outB_spec (by kernel_rfl))
              have hord : ∀ x ∈ ([] : List (Nat × Nat)), x.1 = 34 → listed.getD x.2 false = true := by simp
              refine wp_mv _ rfl (hK _ _ ?_)
              rw [show a.eval (.tmp 1) = .slice adb nb capb from q1]
              exact hJ.next (by rw [hls]; decide) (by rw [hT]; rfl) hJ.st hord
            · have ddg := hdep ⟨33, .guard⟩ (by simp) rfl
              have kg := ddg.2 _ rfl _ rfl
              have hg := hJ.vals 33 ddg.1
              rw [hT] at hg
              rw [show f 33 = .bool false from hg] at kg
              clear hg ddg
              rw [if_pos (wanted_of rfl rfl rfl kg)]
              clear kg
              intro K hK
              have q61 := hJ.is hT (hdep ⟨34, .data⟩ (by simp) rfl) rfl _ rfl _ rfl
              have hord : ∀ x ∈ ([] : List (Nat × Nat)), x.1 = 35 → listed.getD x.2 false = true := by simp
              rw [Array.getD_eq_getD_getElem?] at q61
              have hst := hJ.st
              clear hsz hdep hout hlat
              go_simp
              refine (C9.out w7 hst).mono ?_
              rintro e wq ⟨rfl, xq⟩
              exact hK _ _ (hJ.next (by rw [hls]; decide) (by rw [hT]; rfl) (Ex.trans hst xq) hord)
            · have ddg := hdep ⟨30, .guard⟩ (by simp) rfl
              have kg := ddg.2 _ rfl _ rfl
              have hg := hJ.vals 30 ddg.1
              rw [hT] at hg
              rw [show f 30 = .bool false from hg] at kg
              clear hg ddg
              rw [if_pos (wanted_of rfl rfl rfl kg)]
              clear kg
              intro K hK
              have q60 := hJ.is hT (hdep ⟨33, .data⟩ (by simp) rfl) rfl _ rfl _ rfl
              have q62 := hJ.is hT (hdep ⟨35, .data⟩ (by simp) rfl) rfl _ rfl _ rfl
              have hord : ∀ x ∈ ([] : List (Nat × Nat)), x.1 = 36 → listed.getD x.2 false = true := by simp
              rw [Array.getD_eq_getD_getElem?] at q60
              rw [Array.getD_eq_getD_getElem?] at q62
              clear hsz hdep hout hlat
              go_simp
              exact hK _ _ (hJ.next (by rw [hls]; decide) (by rw [hT]; first | rfl | exact congrArg (Value.int .i64) (by omega) | exact congrArg (Value.int .i64) (by rw [IntKind.wrap_i64]; omega) | exact congrArg Value.bool (decide_eq_false (by omega)) | exact congrArg Value.bool (decide_eq_true (by omega)) | exact congrArg (Value.int .u64) (by omega)) hJ.st hord)
            · have ddg := hdep ⟨30, .guard⟩ (by simp) rfl
              have kg := ddg.2 _ rfl _ rfl
              have hg := hJ.vals 30 ddg.1
              rw [hT] at hg
              rw [show f 30 = .bool false from hg] at kg
              clear hg ddg
              rw [if_pos (wanted_of rfl rfl rfl kg)]
              clear kg
              intro K hK
              have q63 := hJ.is hT (hdep ⟨36, .data⟩ (by simp) rfl) rfl _ rfl _ rfl
              have hord : ∀ x ∈ ([] : List (Nat × Nat)), x.1 = 37 → listed.getD x.2 false = true := by simp
              refine wp_mv _ rfl (hK _ _ ?_)
              rw [show a.eval (.tmp 63) = .bool true from q63]
              exact hJ.next (by rw [hls]; decide) (by rw [hT]; rfl) hJ.st hord
            · have ddg := hdep ⟨37, .guard⟩ (by simp) rfl
              have kg := ddg.2 _ rfl _ rfl
              have hg := hJ.vals 37 ddg.1
              rw [hT] at hg
              rw [show f 37 = .bool true from hg] at kg
              clear hg ddg
              rw [if_pos (wanted_of rfl rfl rfl kg)]
              clear kg
              intro K hK
              have q9 := hout 9 (outB_spec (by kernel_rfl))
              have hord : ∀ x ∈ ([] : List (Nat × Nat)), x.1 = 38 → listed.getD x.2 false = true := by simp
              refine wp_mv _ rfl (hK _ _ ?_)
              rw [show a.eval (.tmp 9) = .slice adl (na + nb) capl from q9]
              exact hJ.next (by rw [hls]; decide) (by rw [hT]; rfl) hJ.st hord
            · have ddg := hdep ⟨37, .guard⟩ (by simp) rfl
              have kg := ddg.2 _ rfl _ rfl
              have hg := hJ.vals 37 ddg.1
              rw [hT] at hg
              rw [show f 37 = .bool true from hg] at kg
              clear hg ddg
              rw [if_pos (wanted_of rfl rfl rfl kg)]
              clear kg
              intro K hK
              have q65 := hJ.is hT (hdep ⟨38, .data⟩ (by simp) rfl) rfl _ rfl _ rfl
              have hord : ∀ x ∈ ([] : List (Nat × Nat)), x.1 = 39 → listed.getD x.2 false = true := by simp
              rw [Array.getD_eq_getD_getElem?] at q65
              have hst := hJ.st
              clear hsz hdep hout hlat
              go_simp
              refine (C7.out w7 hst).mono ?_
              rintro e wq ⟨rfl, xq⟩
              exact hK _ _ (hJ.next (by rw [hls]; decide) (by rw [hT]; rfl) (Ex.trans hst xq) hord)
            · have ddg := hdep ⟨37, .guard⟩ (by simp) rfl
              have kg := ddg.2 _ rfl _ rfl
              have hg := hJ.vals 37 ddg.1
              rw [hT] at hg
              rw [show f 37 = .bool true from hg] at kg
              clear hg ddg
              rw [if_pos (wanted_of rfl rfl rfl kg)]
              clear kg
              intro K hK
              have q66 := hJ.is hT (hdep ⟨39, .data⟩ (by simp) rfl) rfl _ rfl _ rfl
              have hord : ∀ x ∈ ([] : List (Nat × Nat)), x.1 = 40 → listed.getD x.2 false = true := by simp
              rw [Array.getD_eq_getD_getElem?] at q66
              clear hsz hdep hout hlat
              go_simp
              exact hK _ _ (hJ.next (by rw [hls]; decide) (by rw [hT]; first | rfl | exact congrArg (Value.int .i64) (by omega) | exact congrArg (Value.int .i64) (by rw [IntKind.wrap_i64]; omega) | exact congrArg Value.bool (decide_eq_false (by omega)) | exact congrArg Value.bool (decide_eq_true (by omega)) | exact congrArg (Value.int .u64) (by omega)) hJ.st hord)
            · have ddg := hdep ⟨30, .guard⟩ (by simp) rfl
              have kg := ddg.2 _ rfl _ rfl
              have hg := hJ.vals 30 ddg.1
              rw [hT] at hg
              rw [show f 30 = .bool false from hg] at kg
              clear hg ddg
              rw [if_pos (wanted_of rfl rfl rfl kg)]
              clear kg
              intro K hK
              have q64 := hJ.is hT (hdep ⟨37, .data⟩ (by simp) rfl) rfl _ rfl _ rfl
              have q67 := hJ.is hT (hdep ⟨40, .data⟩ (by simp) rfl) rfl _ rfl _ rfl
              have hord : ∀ x ∈ ([] : List (Nat × Nat)), x.1 = 41 → listed.getD x.2 false = true := by simp
              rw [Array.getD_eq_getD_getElem?] at q64
              rw [Array.getD_eq_getD_getElem?] at q67
              clear hsz hdep hout hlat
              go_simp
              exact hK _ _ (hJ.next (by rw [hls]; decide) (by rw [hT]; first | rfl | exact congrArg (Value.int .i64) (by omega) | exact congrArg (Value.int .i64) (by rw [IntKind.wrap_i64]; omega) | exact congrArg Value.bool (decide_eq_false (by omega)) | exact congrArg Value.bool (decide_eq_true (by omega)) | exact congrArg (Value.int .u64) (by omega)) hJ.st hord)
            have q57 := hJ.is hT (hdep ⟨30, .data⟩ (by simp) rfl) rfl _ rfl _ rfl
            have q68 := hJ.is hT (hdep ⟨41, .data⟩ (by simp) rfl) rfl _ rfl _ rfl
            have hord : ∀ x ∈ ([] : List (Nat × Nat)), x.1 = 42 → listed.getD x.2 false = true := by simp
            rw [Array.getD_eq_getD_getElem?] at q57
            rw [Array.getD_eq_getD_getElem?] at q68
            clear hsz hdep hout hlat
            go_simp
            exact hK _ _ (hJ.next (by rw [hls]; decide) (by rw [hT]; first | rfl | exact congrArg (Value.int .i64) (by omega) | exact congrArg (Value.int .i64) (by rw [IntKind.wrap_i64]; omega) | exact congrArg Value.bool (decide_eq_false (by omega)) | exact congrArg Value.bool (decide_eq_true (by omega)) | exact congrArg (Value.int .u64) (by omega)) hJ.st hord)
          intro listed f w7 hall hJ
          have f42 : f 42 = .bool false := by
            have h := hJ.vals 42 (hall 42 (by simp))
            rw [hT] at h; exact h
          have hst := hJ.st
          simp only [putAll, Act.put, List.setIfInBounds_toArray, List.set_cons_zero, List.set_cons_succ, Nat.zero_add, Nat.reduceAdd]
          have X7 : Hid (Ex w6 w7) := Lib.hid hst
          clear hst hS0
          rw [f42]
          clear f42
          clear hJ hall hT
          generalize f 0 = y0
          generalize f 1 = y1
          generalize f 2 = y2
          generalize f 3 = y3
          generalize f 4 = y4
          generalize f 5 = y5
          generalize f 6 = y6
          generalize f 7 = y7
          generalize f 8 = y8
          generalize f 9 = y9
          generalize f 10 = y10
          generalize f 11 = y11
          generalize f 12 = y12
          generalize f 13 = y13
          generalize f 14 = y14
          generalize f 15 = y15
          generalize f 16 = y16
          generalize f 17 = y17
          generalize f 18 = y18
          generalize f 19 = y19
          generalize f 20 = y20
          generalize f 21 = y21
          generalize f 22 = y22
          generalize f 23 = y23
          generalize f 24 = y24
          generalize f 25 = y25
          generalize f 26 = y26
          generalize f 27 = y27
          generalize f 28 = y28
          generalize f 29 = y29
          generalize f 30 = y30
          generalize f 31 = y31
          generalize f 32 = y32
          generalize f 33 = y33
          generalize f 34 = y34
          generalize f 35 = y35
          generalize f 36 = y36
          generalize f 37 = y37
          generalize f 38 = y38
          generalize f 39 = y39
          generalize f 40 = y40
          generalize f 41 = y41
          go_wp2_with fail
          go_meet
          case rel => exact ⟨rfl, X7⟩
        obtain rfl : zl = true := HAB.out (Or.inl rfl)
        have hS0 : ∀ (listed : Array Bool) (f : Nat → Value), (∀ i, listed.getD i false = false) → Ex w6 w6.drew := fun _ _ _ => (Below.refl w6.heap.size w6).drew
        obtain ⟨T, hT⟩ : ∃ T : List (Value → Prop), T = [(fun zz => zz = digV id), (fun zz => zz = .int .u64 gen), (fun zz => zz = .slice adl (na + nb) capl), (fun zz => zz = .int .i64 ((wa : Int) + (wb : Int))), (fun zz => zz = digV id), (fun zz => zz = .int .u64 gen), (fun zz => zz = .slice ada na capa), (fun zz => zz = .int .i64 (wa : Int)), (fun zz => zz = digV id), (fun zz => zz = .int .u64 gen), (fun zz => zz = .slice adb nb capb), (fun zz => zz = .int .i64 (wb : Int)), (fun zz => zz = .int .i64 ((wa : Int) + (wb : Int))), (fun zz => zz = .bool false), (fun zz => zz = .bool false), (fun zz => zz = digV id), (fun zz => zz = .int .u64 gen), (fun zz => zz = .slice adl (na + nb) capl), (fun zz => zz = .int .i64 ((ta : Int) + (tb : Int))), (fun zz => zz = digV id), (fun zz => zz = .int .u64 gen), (fun zz => zz = .slice ada na capa), (fun zz => zz = .int .i64 (ta : Int)), (fun zz => zz = digV id), (fun zz => zz = .int .u64 gen), (fun zz => zz = .slice adb nb capb), (fun zz => zz = .int .i64 (tb : Int)), (fun zz => zz = .int .i64 ((ta : Int) + (tb : Int))), (fun zz => zz = .bool false), (fun zz => zz = .bool false), (fun zz => zz = .bool false), (fun zz => zz = .slice ada na capa), (fun zz => zz = .bool true), (fun zz => zz = .bool true), (fun zz => zz = undef), (fun zz => zz = undef), (fun zz => zz = .bool true), (fun zz => zz = .bool true), (fun zz => zz = .slice adl (na + nb) capl), (fun zz => zz = .bool true), (fun zz => zz = .bool false), (fun zz => zz = .bool false), (fun zz => zz = .bool false)] := ⟨_, rfl⟩
        refine wp_region_gen (JS T ([] : List (Nat × Nat)) (fun _ _ wq => Ex w6 wq)) (by kernel_rfl) (by kernel_rfl) (by kernel_rfl) (fitB_spec (by kernel_rfl)) (fun listed f h => JS.start listed f h (hS0 listed f h)) ?_ ?_
        · intro i o ho
          have hi : i < 43 := (Array.getElem?_eq_some_iff.1 ho).1
          have hi' : i = 0 ∨ i = 1 ∨ i = 2 ∨ i = 3 ∨ i = 4 ∨ i = 5 ∨ i = 6 ∨ i = 7 ∨ i = 8 ∨ i = 9 ∨ i = 10 ∨ i = 11 ∨ i = 12 ∨ i = 13 ∨ i = 14 ∨ i = 15 ∨ i = 16 ∨ i = 17 ∨ i = 18 ∨ i = 19 ∨ i = 20 ∨ i = 21 ∨ i = 22 ∨ i = 23 ∨ i = 24 ∨ i = 25 ∨ i = 26 ∨ i = 27 ∨ i = 28 ∨ i = 29 ∨ i = 30 ∨ i = 31 ∨ i = 32 ∨ i = 33 ∨ i = 34 ∨ i = 35 ∨ i = 36 ∨ i = 37 ∨ i = 38 ∨ i = 39 ∨ i = 40 ∨ i = 41 ∨ i = 42 := by omega
          clear hi
          rcases hi' with rfl | rfl | rfl | rfl | rfl | rfl | rfl | rfl | rfl | rfl | rfl | rfl | rfl | rfl | rfl | rfl | rfl | rfl | rfl | rfl | rfl | rfl | rfl | rfl | rfl | rfl | rfl | rfl | rfl | rfl | rfl | rfl | rfl | rfl | rfl | rfl | rfl | rfl | rfl | rfl | rfl | rfl | rfl
          all_goals (simp only [List.getElem?_toArray, List.getElem?_cons_zero, List.getElem?_cons_succ, Option.some.injEq] at ho; subst ho; intro listed f a w7 hJ hsz hls hun hdep hout hlat; first | (rw [if_pos (by rfl)]; intro K hK) | skip)
          · have q6 := hout 6 (outB_spec (by kernel_rfl))
            have hord : ∀ x ∈ ([] : List (Nat × Nat)), x.1 = 0 → listed.getD x.2 false = true := by simp
            exact ld_ib _ B id HID.out rfl q6 (I0.out.ext hJ.st) (hK _ _ (hJ.next (by rw [hls]; decide) (by rw [hT]; rfl) hJ.st hord))
          · have q3 := hout 3 (outB_spec (by kernel_rfl))
            have hord : ∀ x ∈ ([] : List (Nat × Nat)), x.1 = 1 → listed.getD x.2 false = true := by simp
            refine wp_mv _ rfl (hK _ _ ?_)
            rw [show a.eval (.tmp 3) = .int .u64 gen from q3]
            exact hJ.next (by rw [hls]; decide) (by rw [hT]; rfl) hJ.st hord
          · have q9 := hout 9 (outB_spec (by kernel_rfl))
            have hord : ∀ x ∈ ([] : List (Nat × Nat)), x.1 = 2 → listed.getD x.2 false = true := by simp
            refine wp_mv _ rfl (hK _ _ ?_)
            rw [show a.eval (.tmp 9) = .slice adl (na + nb) capl from q9]
            exact hJ.next (by rw [hls]; decide) (by rw [hT]; rfl) hJ.st hord
          · have q27 := hJ.is hT (hdep ⟨0, .data⟩ (by simp) rfl) rfl _ rfl _ rfl
            have q28 := hJ.is hT (hdep ⟨1, .data⟩ (by simp) rfl) rfl _ rfl _ rfl
            have q29 := hJ.is hT (hdep ⟨2, .data⟩ (by simp) rfl) rfl _ rfl _ rfl
            have hord : ∀ x ∈ ([] : List (Nat × Nat)), x.1 = 3 → listed.getD x.2 false = true := by simp
            rw [Array.getD_eq_getD_getElem?] at q27
            rw [Array.getD_eq_getD_getElem?] at q28
            rw [Array.getD_eq_getD_getElem?] at q29
            have hst := hJ.st
            clear hsz hdep hout hlat
            go_simp
            refine (C1.out w7 hst).mono ?_
            rintro e wq ⟨rfl, xq⟩
            exact hK _ _ (hJ.next (by rw [hls]; decide) (by rw [hT]; first | rfl | exact congrArg (Value.int .i64) (by omega)) (Ex.trans hst xq) hord)
          · have q6 := hout 6 (outB_spec (by kernel_rfl))
            have hord : ∀ x ∈ ([] : List (Nat × Nat)), x.1 = 4 → listed.getD x.2 false = true := by simp
            exact ld_ib _ B id HID.out rfl q6 (I0.out.ext hJ.st) (hK _ _ (hJ.next (by rw [hls]; decide) (by rw [hT]; rfl) hJ.st hord))
          · have q3 := hout 3 (outB_spec (by kernel_rfl))
            have hord : ∀ x ∈ ([] : List (Nat × Nat)), x.1 = 5 → listed.getD x.2 false = true := by simp
            refine wp_mv _ rfl (hK _ _ ?_)
            rw [show a.eval (.tmp 3) = .int .u64 gen from q3]
            exact hJ.next (by rw [hls]; decide) (by rw [hT]; rfl) hJ.st hord
          · have q0 := hout 0 (outB_spec (by kernel_rfl))
            have hord : ∀ x ∈ ([] : List (Nat × Nat)), x.1 = 6 → listed.getD x.2 false = true := by simp
            refine wp_mv _ rfl (hK _ _ ?_)
            rw [show a.eval (.tmp 0) = .slice ada na capa from q0]
            exact hJ.next (by rw [hls]; decide) (by rw [hT]; rfl) hJ.st hord
          · have q31 := hJ.is hT (hdep ⟨4, .data⟩ (by simp) rfl) rfl _ rfl _ rfl
            have q32 := hJ.is hT (hdep ⟨5, .data⟩ (by simp) rfl) rfl _ rfl _ rfl
            have q33 := hJ.is hT (hdep ⟨6, .data⟩ (by simp) rfl) rfl _ rfl _ rfl
            have hord : ∀ x ∈ ([] : List (Nat × Nat)), x.1 = 7 → listed.getD x.2 false = true := by simp
            rw [Array.getD_eq_getD_getElem?] at q31
            rw [Array.getD_eq_getD_getElem?] at q32
            rw [Array.getD_eq_getD_getElem?] at q33
            have hst := hJ.st
            clear hsz hdep hout hlat
            go_simp
            refine (C2.out w7 hst).mono ?_
            rintro e wq ⟨rfl, xq⟩
            exact hK _ _ (hJ.next (by rw [hls]; decide) (by rw [hT]; rfl) (Ex.trans hst xq) hord)
          · have q6 := hout 6 (outB_spec (by kernel_rfl))
            have hord : ∀ x ∈ ([] : List (Nat × Nat)), x.1 = 8 → listed.getD x.2 false = true := by simp
            exact ld_ib _ B id HID.out rfl q6 (I0.out.ext hJ.st) (hK _ _ (hJ.next (by rw [hls]; decide) (by rw [hT]; rfl) hJ.st hord))
          · have q3 := hout 3 (outB_spec (by kernel_rfl))
            have hord : ∀ x ∈ ([] : List (Nat × Nat)), x.1 = 9 → listed.getD x.2 false = true := by simp
            refine wp_mv _ rfl (hK _ _ ?_)
            rw [show a.eval (.tmp 3) = .int .u64 gen from q3]
            exact hJ.next (by rw [hls]; decide) (by rw [hT]; rfl) hJ.st hord
          · have q1 := hout 1 (outB_spec (by kernel_rfl))
            have hord : ∀ x ∈ ([] : List (Nat × Nat)), x.1 = 10 → listed.getD x.2 false = true := by simp
            refine wp_mv _ rfl (hK _ _ ?_)
            rw [show a.eval (.tmp 1) = .slice adb nb capb from q1]
            exact hJ.next (by rw [hls]; decide) (by rw [hT]; rfl) hJ.st hord
          · have q35 := hJ.is hT (hdep ⟨8, .data⟩ (by simp) rfl) rfl _ rfl _ rfl
            have q36 := hJ.is hT (hdep ⟨9, .data⟩ (by simp) rfl) rfl _ rfl _ rfl
            have q37 := hJ.is hT (hdep ⟨10, .data⟩ (by simp) rfl) rfl _ rfl _ rfl
            have hord : ∀ x ∈ ([] : List (Nat × Nat)), x.1 = 11 → listed.getD x.2 false = true := by simp
            rw [Array.getD_eq_getD_getElem?] at q35
            rw [Array.getD_eq_getD_getElem?] at q36
            rw [Array.getD_eq_getD_getElem?] at q37
            have hst := hJ.st
            clear hsz hdep hout hlat
            go_simp
            refine (C3.out w7 hst).mono ?_
            rintro e wq ⟨rfl, xq⟩
            exact hK _ _ (hJ.next (by rw [hls]; decide) (by rw [hT]; rfl) (Ex.trans hst xq) hord)
          · have q34 := hJ.is hT (hdep ⟨7, .data⟩ (by simp) rfl) rfl _ rfl _ rfl
            have q38 := hJ.is hT (hdep ⟨11, .data⟩ (by simp) rfl) rfl _ rfl _ rfl
            have hord : ∀ x ∈ ([] : List (Nat × Nat)), x.1 = 12 → listed.getD x.2 false = true := by simp
            rw [Array.getD_eq_getD_getElem?] at q34
            rw [Array.getD_eq_getD_getElem?] at q38
            have hw : IntKind.i64.wrap ((wa : Int) + (wb : Int)) = (wa : Int) + (wb : Int) := by rw [IntKind.wrap_i64]; omega
            clear hsz hdep hout hlat
            go_simp
            exact hK _ _ (hJ.next (by rw [hls]; decide) (by rw [hT]; first | rfl | exact congrArg (Value.int .i64) hw) hJ.st hord)
          · have q30 := hJ.is hT (hdep ⟨3, .data⟩ (by simp) rfl) rfl _ rfl _ rfl
            have q39 := hJ.is hT (hdep ⟨12, .data⟩ (by simp) rfl) rfl _ rfl _ rfl
            have hord : ∀ x ∈ ([] : List (Nat × Nat)), x.1 = 13 → listed.getD x.2 false = true := by simp
            rw [Array.getD_eq_getD_getElem?] at q30
            rw [Array.getD_eq_getD_getElem?] at q39
            clear hsz hdep hout hlat
            go_simp
            exact hK _ _ (hJ.next (by rw [hls]; decide) (by rw [hT]; first | rfl | simp) hJ.st hord)
          · have q40 := hJ.is hT (hdep ⟨13, .data⟩ (by simp) rfl) rfl _ rfl _ rfl
            have hord : ∀ x ∈ ([] : List (Nat × Nat)), x.1 = 14 → listed.getD x.2 false = true := by simp
            refine wp_mv _ rfl (hK _ _ ?_)
            rw [show a.eval (.tmp 40) = .bool false from q40]
            exact hJ.next (by rw [hls]; decide) (by rw [hT]; rfl) hJ.st hord
          · have ddg := hdep ⟨14, .guard⟩ (by simp) rfl
            have kg := ddg.2 _ rfl _ rfl
            have hg := hJ.vals 14 ddg.1
            rw [hT] at hg
            rw [show f 14 = .bool false from hg] at kg
            clear hg ddg
            rw [if_pos (wanted_of rfl rfl rfl kg)]
            clear kg
            intro K hK
            have q6 := hout 6 (outB_spec (by kernel_rfl))
            have hord : ∀ x ∈ ([] : List (Nat × Nat)), x.1 = 15 → listed.getD x.2 false = true := by simp
            exact ld_ib _ B id HID.out rfl q6 (I0.out.ext hJ.st) (hK _ _ (hJ.next (by rw [hls]; decide) (by rw [hT]; rfl) hJ.st hord))
          · have ddg := hdep ⟨14, .guard⟩ (by simp) rfl
            have kg := ddg.2 _ rfl _ rfl
            have hg := hJ.vals 14 ddg.1
            rw [hT] at hg
            rw [show f 14 = .bool false from hg] at kg
            clear hg ddg
            rw [if_pos (wanted_of rfl rfl rfl kg)]
            clear kg
            intro K hK
            have q3 := hout 3 (outB_spec (by kernel_rfl))
            have hord : ∀ x ∈ ([] : List (Nat × Nat)), x.1 = 16 → listed.getD x.2 false = true := by simp
            refine wp_mv _ rfl (hK _ _ ?_)
            rw [show a.eval (.tmp 3) = .int .u64 gen from q3]
            exact hJ.next (by rw [hls]; decide) (by rw [hT]; rfl) hJ.st hord
          · have ddg := hdep ⟨14, .guard⟩ (by simp) rfl
            have kg := ddg.2 _ rfl _ rfl
            have hg := hJ.vals 14 ddg.1
            rw [hT] at hg
            rw [show f 14 = .bool false from hg] at kg
            clear hg ddg
            rw [if_pos (wanted_of rfl rfl rfl kg)]
            clear kg
            intro K hK
            have q9 := hout 9 (outB_spec (by kernel_rfl))
            have hord : ∀ x ∈ ([] : List (Nat × Nat)), x.1 = 17 → listed.getD x.2 false = true := by simp
            refine wp_mv _ rfl (hK _ _ ?_)
            rw [show a.eval (.tmp 9) = .slice adl (na + nb) capl from q9]
            exact hJ.next (by rw [hls]; decide) (by rw [hT]; rfl) hJ.st hord
          · have ddg := hdep ⟨14, .guard⟩ (by simp) rfl
            have kg := ddg.2 _ rfl _ rfl
            have hg := hJ.vals 14 ddg.1
            rw [hT] at hg
            rw [show f 14 = .bool false from hg] at kg
            clear hg ddg
            rw [if_pos (wanted_of rfl rfl rfl kg)]
            clear kg
            intro K hK
            have q42 := hJ.is hT (hdep ⟨15, .data⟩ (by simp) rfl) rfl _ rfl _ rfl
            have q43 := hJ.is hT (hdep ⟨16, .data⟩ (by simp) rfl) rfl _ rfl _ rfl
            have q44 := hJ.is hT (hdep ⟨17, .data⟩ (by simp) rfl) rfl _ rfl _ rfl
            have hord : ∀ x ∈ ([] : List (Nat × Nat)), x.1 = 18 → listed.getD x.2 false = true := by simp
            rw [Array.getD_eq_getD_getElem?] at q42
            rw [Array.getD_eq_getD_getElem?] at q43
            rw [Array.getD_eq_getD_getElem?] at q44
            have hst := hJ.st
            clear hsz hdep hout hlat
            go_simp
            refine (C4.out w7 hst).mono ?_
            rintro e wq ⟨rfl, xq⟩
            exact hK _ _ (hJ.next (by rw [hls]; decide) (by rw [hT]; first | rfl | exact congrArg (Value.int .i64) (by omega)) (Ex.trans hst xq) hord)
          · have ddg := hdep ⟨14, .guard⟩ (by simp) rfl
            have kg := ddg.2 _ rfl _ rfl
            have hg := hJ.vals 14 ddg.1
            rw [hT] at hg
            rw [show f 14 = .bool false from hg] at kg
            clear hg ddg
            rw [if_pos (wanted_of rfl rfl rfl kg)]
            clear kg
            intro K hK
            have q6 := hout 6 (outB_spec (by kernel_rfl))
            have hord : ∀ x ∈ ([] : List (Nat × Nat)), x.1 = 19 → listed.getD x.2 false = true := by simp
            exact ld_ib _ B id HID.out rfl q6 (I0.out.ext hJ.st) (hK _ _ (hJ.next (by rw [hls]; decide) (by rw [hT]; rfl) hJ.st hord))
          · have ddg := hdep ⟨14, .guard⟩ (by simp) rfl
            have kg := ddg.2 _ rfl _ rfl
            have hg := hJ.vals 14 ddg.1
            rw [hT] at hg
            rw [show f 14 = .bool false from hg] at kg
            clear hg ddg
            rw [if_pos (wanted_of rfl rfl rfl kg)]
            clear kg
            intro K hK
            have q3 := hout 3 (outB_spec (by kernel_rfl))
            have hord : ∀ x ∈ ([] : List (Nat × Nat)), x.1 = 20 → listed.getD x.2 false = true := by simp
            refine wp_mv _ rfl (hK _ _ ?_)
            rw [show a.eval (.tmp 3) = .int .u64 gen from q3]
            exact hJ.next (by rw [hls]; decide) (by rw [hT]; rfl) hJ.st hord
          · have ddg := hdep ⟨14, .guard⟩ (by simp) rfl
            have kg := ddg.2 _ rfl _ rfl
            have hg := hJ.vals 14 ddg.1
            rw [hT] at hg
            rw [show f 14 = .bool false from hg] at kg
            clear hg ddg
            rw [if_pos (wanted_of rfl rfl rfl kg)]
            clear kg
            intro K hK
            have q0 := hout 0 (outB_spec (by kernel_rfl))
            have hord : ∀ x ∈ ([] : List (Nat × Nat)), x.1 = 21 → listed.getD x.2 false = true := by simp
            refine wp_mv _ rfl (hK _ _ ?_)
            rw [show a.eval (.tmp 0) = .slice ada na capa from q0]
            exact hJ.next (by rw [hls]; decide) (by rw [hT]; rfl) hJ.st hord
          · have ddg := hdep ⟨14, .guard⟩ (by simp) rfl
            have kg := ddg.2 _ rfl _ rfl
            have hg := hJ.vals 14 ddg.1
            rw [hT] at hg
            rw [show f 14 = .bool false from hg] at kg
            clear hg ddg
            rw [if_pos (wanted_of rfl rfl rfl kg)]
            clear kg
            intro K hK
            have q46 := hJ.is hT (hdep ⟨19, .data⟩ (by simp) rfl) rfl _ rfl _ rfl
            have q47 := hJ.is hT (hdep ⟨20, .data⟩ (by simp) rfl) rfl _ rfl _ rfl
            have q48 := hJ.is hT (hdep ⟨21, .data⟩ (by simp) rfl) rfl _ rfl _ rfl
            have hord : ∀ x ∈ ([] : List (Nat × Nat)), x.1 = 22 → listed.getD x.2 false = true := by simp
            rw [Array.getD_eq_getD_getElem?] at q46
            rw [Array.getD_eq_getD_getElem?] at q47
            rw [Array.getD_eq_getD_getElem?] at q48
            have hst := hJ.st
            clear hsz hdep hout hlat
            go_simp
            refine (C5.out w7 hst).mono ?_
            rintro e wq ⟨rfl, xq⟩
            exact hK _ _ (hJ.next (by rw [hls]; decide) (by rw [hT]; rfl) (Ex.trans hst xq) hord)
          · have ddg := hdep ⟨14, .guard⟩ (by simp) rfl
            have kg := ddg.2 _ rfl _ rfl
            have hg := hJ.vals 14 ddg.1
            rw [hT] at hg
            rw [show f 14 = .bool false from hg] at kg
            clear hg ddg
            rw [if_pos (wanted_of rfl rfl rfl kg)]
            clear kg
            intro K hK
            have q6 := hout 6 (outB_spec (by kernel_rfl))
            have hord : ∀ x ∈ ([] : List (Nat × Nat)), x.1 = 23 → listed.getD x.2 false = true := by simp
            exact ld_ib _ B id HID.out rfl q6 (I0.out.ext hJ.st) (hK _ _ (hJ.next (by rw [hls]; decide) (by rw [hT]; rfl) hJ.st hord))
          · have ddg := hdep ⟨14, .guard⟩ (by simp) rfl
            have kg := ddg.2 _ rfl _ rfl
            have hg := hJ.vals 14 ddg.1
            rw [hT] at hg
            rw [show f 14 = .bool false from hg] at kg
            clear hg ddg
            rw [if_pos (wanted_of rfl rfl rfl kg)]
            clear kg
            intro K hK
            have q3 := hout 3 (outB_spec (by kernel_rfl))
            have hord : ∀ x ∈ ([] : List (Nat × Nat)), x.1 = 24 → listed.getD x.2 false = true := by simp
            refine wp_mv _ rfl (hK _ _ ?_)
            rw [show a.eval (.tmp 3) = .int .u64 gen from q3]
            exact hJ.next (by rw [hls]; decide) (by rw [hT]; rfl) hJ.st hord
          · have ddg := hdep ⟨14, .guard⟩ (by simp) rfl
            have kg := ddg.2 _ rfl _ rfl
            have hg := hJ.vals 14 ddg.1
            rw [hT] at hg
            rw [show f 14 = .bool false from hg] at kg
            clear hg ddg
            rw [if_pos (wanted_of rfl rfl rfl kg)]
            clear kg
            intro K hK
            have q1 := hout 1 (outB_spec (by kernel_rfl))
            have hord : ∀ x ∈ ([] : List (Nat × Nat)), x.1 = 25 → listed.getD x.2 false = true := by simp
            refine wp_mv _ rfl (hK _ _ ?_)
            rw [show a.eval (.tmp 1) = .slice adb nb capb from q1]
            exact hJ.next (by rw [hls]; decide) (by rw [hT]; rfl) hJ.st hord
          · have ddg := hdep ⟨14, .guard⟩ (by simp) rfl
            have kg := ddg.2 _ rfl _ rfl
            have hg := hJ.vals 14 ddg.1
            rw [hT] at hg
            rw [show f 14 = .bool false from hg] at kg
            clear hg ddg
            rw [if_pos (wanted_of rfl rfl rfl kg)]
            clear kg
            intro K hK
            have q50 := hJ.is hT (hdep ⟨23, .data⟩ (by simp) rfl) rfl _ rfl _ rfl
            have q51 := hJ.is hT (hdep ⟨24, .data⟩ (by simp) rfl) rfl _ rfl _ rfl
            have q52 := hJ.is hT (hdep ⟨25, .data⟩ (by simp) rfl) rfl _ rfl _ rfl
            have hord : ∀ x ∈ ([] : List (Nat × Nat)), x.1 = 26 → listed.getD x.2 false = true := by simp
            rw [Array.getD_eq_getD_getElem?] at q50
            rw [Array.getD_eq_getD_getElem?] at q51
            rw [Array.getD_eq_getD_getElem?] at q52
            have hst := hJ.st
            clear hsz hdep hout hlat
            go_simp
            refine (C6.out w7 hst).mono ?_
            rintro e wq ⟨rfl, xq⟩
            exact hK _ _ (hJ.next (by rw [hls]; decide) (by rw [hT]; rfl) (Ex.trans hst xq) hord)
          · have ddg := hdep ⟨14, .guard⟩ (by simp) rfl
            have kg := ddg.2 _ rfl _ rfl
            have hg := hJ.vals 14 ddg.1
            rw [hT] at hg
            rw [show f 14 = .bool false from hg] at kg
            clear hg ddg
            rw [if_pos (wanted_of rfl rfl rfl kg)]
            clear kg
            intro K hK
            have q49 := hJ.is hT (hdep ⟨22, .data⟩ (by simp) rfl) rfl _ rfl _ rfl
            have q53 := hJ.is hT (hdep ⟨26, .data⟩ (by simp) rfl) rfl _ rfl _ rfl
            have hord : ∀ x ∈ ([] : List (Nat × Nat)), x.1 = 27 → listed.getD x.2 false = true := by simp
            rw [Array.getD_eq_getD_getElem?] at q49
            rw [Array.getD_eq_getD_getElem?] at q53
            have hw : IntKind.i64.wrap ((ta : Int) + (tb : Int)) = (ta : Int) + (tb : Int) := by rw [IntKind.wrap_i64]; omega
            clear hsz hdep hout hlat
            go_simp
            exact hK _ _ (hJ.next (by rw [hls]; decide) (by rw [hT]; first | rfl | exact congrArg (Value.int .i64) hw) hJ.st hord)
          · have ddg := hdep ⟨14, .guard⟩ (by simp) rfl
            have kg := ddg.2 _ rfl _ rfl
            have hg := hJ.vals 14 ddg.1
            rw [hT] at hg
            rw [show f 14 = .bool false from hg] at kg
            clear hg ddg
            rw [if_pos (wanted_of rfl rfl rfl kg)]
            clear kg
            intro K hK
            have q45 := hJ.is hT (hdep ⟨18, .data⟩ (by simp) rfl) rfl _ rfl _ rfl
            have q54 := hJ.is hT (hdep ⟨27, .data⟩ (by simp) rfl) rfl _ rfl _ rfl
            have hord : ∀ x ∈ ([] : List (Nat × Nat)), x.1 = 28 → listed.getD x.2 false = true := by simp
            rw [Array.getD_eq_getD_getElem?] at q45
            rw [Array.getD_eq_getD_getElem?] at q54
            clear hsz hdep hout hlat
            go_simp
            exact hK _ _ (hJ.next (by rw [hls]; decide) (by rw [hT]; first | rfl | simp) hJ.st hord)
          · have q41 := hJ.is hT (hdep ⟨14, .data⟩ (by simp) rfl) rfl _ rfl _ rfl
            have q55 := hJ.is hT (hdep ⟨28, .data⟩ (by simp) rfl) rfl _ rfl _ rfl
            have hord : ∀ x ∈ ([] : List (Nat × Nat)), x.1 = 29 → listed.getD x.2 false = true := by simp
            rw [Array.getD_eq_getD_getElem?] at q41
            rw [Array.getD_eq_getD_getElem?] at q55
            clear hsz hdep hout hlat
            go_simp
            exact hK _ _ (hJ.next (by rw [hls]; decide) (by rw [hT]; first | rfl | exact congrArg (Value.int .i64) (by omega) | exact congrArg (Value.int .i64) (by rw [IntKind.wrap_i64]; omega) | exact congrArg Value.bool (decide_eq_false (by omega)) | exact congrArg Value.bool (decide_eq_true (by omega)) | exact congrArg (Value.int .u64) (by omega)) hJ.st hord)
          · have q56 := hJ.is hT (hdep ⟨29, .data⟩ (by simp) rfl) rfl _ rfl _ rfl
            have hord : ∀ x ∈ ([] : List (Nat × Nat)), x.1 = 30 → listed.getD x.2 false = true := by simp
            refine wp_mv _ rfl (hK _ _ ?_)
            rw [show a.eval (.tmp 56) = .bool false from q56]
            exact hJ.next (by rw [hls]; decide) (by rw [hT]; rfl) hJ.st hord
          · have ddg := hdep ⟨30, .guard⟩ (by simp) rfl
            have kg := ddg.2 _ rfl _ rfl
            have hg := hJ.vals 30 ddg.1
            rw [hT] at hg
            rw [show f 30 = .bool false from hg] at kg
            clear hg ddg
            rw [if_pos (wanted_of rfl rfl rfl kg)]
            clear kg
            intro K hK
            have q0 := hout 0 (outB_spec (by kernel_rfl))
            have hord : ∀ x ∈ ([] : List (Nat × Nat)), x.1 = 31 → listed.getD x.2 false = true := by simp
            refine wp_mv _ rfl (hK _ _ ?_)
            rw [show a.eval (.tmp 0) = .slice ada na capa from q0]
            exact hJ.next (by rw [hls]; decide) (by rw [hT]; rfl) hJ.st hord
          · have ddg := hdep ⟨30, .guard⟩ (by simp) rfl
            have kg := ddg.2 _ rfl _ rfl
            have hg := hJ.vals 30 ddg.1
            rw [hT] at hg
            rw [show f 30 = .bool false from hg] at kg
            clear hg ddg
            rw [if_pos (wanted_of rfl rfl rfl kg)]
            clear kg
            intro K hK
            have q58 := hJ.is hT (hdep ⟨31, .data⟩ (by simp) rfl) rfl _ rfl _ rfl
            have hord : ∀ x ∈ ([] : List (Nat × Nat)), x.1 = 32 → listed.getD x.2 false = true := by simp
            rw [Array.getD_eq_getD_getElem?] at q58
            have hst := hJ.st
            clear hsz hdep hout hlat
            go_simp
            refine (C8.out w7 hst).mono ?_
            rintro e wq ⟨rfl, xq⟩
            exact hK _ _ (hJ.next (by rw [hls]; decide) (by rw [hT]; rfl) (Ex.trans hst xq) hord)
          · have ddg := hdep ⟨30, .guard⟩ (by simp) rfl
            have kg := ddg.2 _ rfl _ rfl
            have hg := hJ.vals 30 ddg.1
            rw [hT] at hg
            rw [show f 30 = .bool false from hg] at kg
            clear hg ddg
            rw [if_pos (wanted_of rfl rfl rfl kg)]
            clear kg
            intro K hK
            have q59 := hJ.is hT (hdep ⟨32, .data⟩ (by simp) rfl) rfl _ rfl _ rfl
            have hord : ∀ x ∈ ([] : List (Nat × Nat)), x.1 = 33 → listed.getD x.2 false = true := by simp
            refine wp_mv _ rfl (hK _ _ ?_)
            rw [show a.eval (.tmp 59) = .bool true from q59]
            exact hJ.next (by rw [hls]; decide) (by rw [hT]; rfl) hJ.st hord
          · have ddg := hdep ⟨33, .guard⟩ (by simp) rfl
            have kg := ddg.2 _ rfl _ rfl
            have hg := hJ.vals 33 ddg.1
            rw [hT] at hg
            rw [show f 33 = .bool true from hg] at kg
            clear hg ddg
            have hord : ∀ x ∈ ([] : List (Nat × Nat)), x.1 = 34 → listed.getD x.2 false = true := by simp
            rw [if_neg (not_wanted rfl rfl rfl kg (by decide))]
            exact hJ.next (by rw [hls]; decide) (by rw [hT]; first | exact trivial | rfl) hJ.st hord
          · have ddg := hdep ⟨33, .guard⟩ (by simp) rfl
            have kg := ddg.2 _ rfl _ rfl
            have hg := hJ.vals 33 ddg.1
            rw [hT] at hg
            rw [show f 33 = .bool true from hg] at kg
            clear hg ddg
            have hord : ∀ x ∈ ([] : List (Nat × Nat)), x.1 = 35 → listed.getD x.2 false = true := by simp
            rw [if_neg (not_wanted rfl rfl rfl kg (by decide))]
            exact hJ.next (by rw [hls]; decide) (by rw [hT]; first | exact trivial | rfl) hJ.st hord
          · have ddg := hdep ⟨30, .guard⟩ (by simp) rfl
            have kg := ddg.2 _ rfl _ rfl
            have hg := hJ.vals 30 ddg.1
            rw [hT] at hg
            rw [show f 30 = .bool false from hg] at kg
            clear hg ddg
            rw [if_pos (wanted_of rfl rfl rfl kg)]
            clear kg
            intro K hK
            have q60 := hJ.is hT (hdep ⟨33, .data⟩ (by simp) rfl) rfl _ rfl _ rfl
            have q62 := hJ.is hT (hdep ⟨35, .data⟩ (by simp) rfl) rfl _ rfl _ rfl
            have hord : ∀ x ∈ ([] : List (Nat × Nat)), x.1 = 36 → listed.getD x.2 false = true := by simp
            rw [Array.getD_eq_getD_getElem?] at q60
            rw [Array.getD_eq_getD_getElem?] at q62
            clear hsz hdep hout hlat
            go_simp
            exact hK _ _ (hJ.next (by rw [hls]; decide) (by rw [hT]; first | rfl | exact congrArg (Value.int .i64) (by omega) | exact congrArg (Value.int .i64) (by rw [IntKind.wrap_i64]; omega) | exact congrArg Value.bool (decide_eq_false (by omega)) | exact congrArg Value.bool (decide_eq_true (by omega)) | exact congrArg (Value.int .u64) (by omega)) hJ.st hord)
          · have ddg := hdep ⟨30, .guard⟩ (by simp) rfl
            have kg := ddg.2 _ rfl _ rfl
            have hg := hJ.vals 30 ddg.1
            rw [hT] at hg
            rw [show f 30 = .bool false from hg] at kg
            clear hg ddg
            rw [if_pos (wanted_of rfl rfl rfl kg)]
            clear kg
            intro K hK
            have q63 := hJ.is hT (hdep ⟨36, .data⟩ (by simp) rfl) rfl _ rfl _ rfl
            have hord : ∀ x ∈ ([] : List (Nat × Nat)), x.1 = 37 → listed.getD x.2 false = true := by simp
            refine wp_mv _ rfl (hK _ _ ?_)
            rw [show a.eval (.tmp 63) = .bool true from q63]
            exact hJ.next (by rw [hls]; decide) (by rw [hT]; rfl) hJ.st hord
          · have ddg := hdep ⟨37, .guard⟩ (by simp) rfl
            have kg := ddg.2 _ rfl _ rfl
            have hg := hJ.vals 37 ddg.1
            rw [hT] at hg
            rw [show f 37 = .bool true from hg] at kg
            clear hg ddg
            rw [if_pos (wanted_of rfl rfl rfl kg)]
            clear kg
            intro K hK
            have q9 := hout 9 (outB_spec (by kernel_rfl))
            have hord : ∀ x ∈ ([] : List (Nat × Nat)), x.1 = 38 → listed.getD x.2 false = true := by simp
            refine wp_mv _ rfl (hK _ _ ?_)
            rw [show a.eval (.tmp 9) = .slice adl (na + nb) capl from q9]
            exact hJ.next (by rw [hls]; decide) (by rw [hT]; rfl) hJ.st hord
          · have ddg := hdep ⟨37, .guard⟩ (by simp) rfl
            have kg := ddg.2 _ rfl _ rfl
            have hg := hJ.vals 37 ddg.1
            rw [hT] at hg
            rw [show f 37 = .bool true from hg] at kg
            clear hg ddg
            rw [if_pos (wanted_of rfl rfl rfl kg)]
            clear kg
            intro K hK
            have q65 := hJ.is hT (hdep ⟨38, .data⟩ (by simp) rfl) rfl _ rfl _ rfl
            have hord : ∀ x ∈ ([] : List (Nat × Nat)), x.1 = 39 → listed.getD x.2 false = true := by simp
            rw [Array.getD_eq_getD_getElem?] at q65
            have hst := hJ.st
            clear hsz hdep hout hlat
            go_simp
            refine (C7.out w7 hst).mono ?_
            rintro e wq ⟨rfl, xq⟩
            exact hK _ _ (hJ.next (by rw [hls]; decide) (by rw [hT]; rfl) (Ex.trans hst xq) hord)
          · have ddg := hdep ⟨37, .guard⟩ (by simp) rfl
            have kg := ddg.2 _ rfl _ rfl
            have hg := hJ.vals 37 ddg.1
            rw [hT] at hg
            rw [show f 37 = .bool true from hg] at kg
            clear hg ddg
            rw [if_pos (wanted_of rfl rfl rfl kg)]
            clear kg
            intro K hK
            have q66 := hJ.is hT (hdep ⟨39, .data⟩ (by simp) rfl) rfl _ rfl _ rfl
            have hord : ∀ x ∈ ([] : List (Nat × Nat)), x.1 = 40 → listed.getD x.2 false = true := by simp
            rw [Array.getD_eq_getD_getElem?] at q66
            clear hsz hdep hout hlat
            go_simp
            exact hK _ _ (hJ.next (by rw [hls]; decide) (by rw [hT]; first | rfl | exact congrArg (Value.int .i64) (by omega) | exact congrArg (Value.int .i64) (by rw [IntKind.wrap_i64]; omega) | exact congrArg Value.bool (decide_eq_false (by omega)) | exact congrArg Value.bool (decide_eq_true (by omega)) | exact congrArg (Value.int .u64) (by omega)) hJ.st hord)
          · have ddg := hdep ⟨30, .guard⟩ (by simp) rfl
            have kg := ddg.2 _ rfl _ rfl
            have hg := hJ.vals 30 ddg.1
            rw [hT] at hg
            rw [show f 30 = .bool false from hg] at kg
            clear hg ddg
            rw [if_pos (wanted_of rfl rfl rfl kg)]
            clear kg
            intro K hK
            have q64 := hJ.is hT (hdep ⟨37, .data⟩ (by simp) rfl) rfl _ rfl _ rfl
            have q67 := hJ.is hT (hdep ⟨40, .data⟩ (by simp) rfl) rfl _ rfl _ rfl
            have hord : ∀ x ∈ ([] : List (Nat × Nat)), x.1 = 41 → listed.getD x.2 false = true := by simp
            rw [Array.getD_eq_getD_getElem?] at q64
            rw [Array.getD_eq_getD_getElem?] at q67
            clear hsz hdep hout hlat
            go_simp
            exact hK _ _ (hJ.next (by rw [hls]; decide) (by rw [hT]; first | rfl | exact congrArg (Value.int .i64) (by omega) | exact congrArg (Value.int .i64) (by rw [IntKind.wrap_i64]; omega) | exact congrArg Value.bool (decide_eq_false (by omega)) | exact congrArg Value.bool (decide_eq_true (by omega)) | exact congrArg (Value.int .u64) (by omega)) hJ.st hord)
          have q57 := hJ.is hT (hdep ⟨30, .data⟩ (by simp) rfl) rfl _ rfl _ rfl
          have q68 := hJ.is hT (hdep ⟨41, .data⟩ (by simp) rfl) rfl _ rfl _ rfl
          have hord : ∀ x ∈ ([] : List (Nat × Nat)), x.1 = 42 → listed.getD x.2 false = true := by simp
          rw [Array.getD_eq_getD_getElem?] at q57
          rw [Array.getD_eq_getD_getElem?] at q68
          clear hsz hdep hout hlat
          go_simp
          exact hK _ _ (hJ.next (by rw [hls]; decide) (by rw [hT]; first | rfl | exact congrArg (Value.int .i64) (by omega) | exact congrArg (Value.int .i64) (by rw [IntKind.wrap_i64]; omega) | exact congrArg Value.bool (decide_eq_false (by omega)) | exact congrArg Value.bool (decide_eq_true (by omega)) | exact congrArg (Value.int .u64) (by omega)) hJ.st hord)
        intro listed f w7 hall hJ
        have f42 : f 42 = .bool false := by
          have h := hJ.vals 42 (hall 42 (by simp))
          rw [hT] at h; exact h
        have hst := hJ.st
        simp only [putAll, Act.put, List.setIfInBounds_toArray, List.set_cons_zero, List.set_cons_succ, Nat.zero_add, Nat.reduceAdd]
        have X7 : Hid (Ex w6 w7) := Lib.hid hst
        clear hst hS0
        rw [f42]
        clear f42
        clear hJ hall hT
        generalize f 0 = y0
        generalize f 1 = y1
        generalize f 2 = y2
        generalize f 3 = y3
        generalize f 4 = y4
        generalize f 5 = y5
        generalize f 6 = y6
        generalize f 7 = y7
        generalize f 8 = y8
        generalize f 9 = y9
        generalize f 10 = y10
        generalize f 11 = y11
        generalize f 12 = y12
        generalize f 13 = y13
        generalize f 14 = y14
        generalize f 15 = y15
        generalize f 16 = y16
        generalize f 17 = y17
        generalize f 18 = y18
        generalize f 19 = y19
        generalize f 20 = y20
        generalize f 21 = y21
        generalize f 22 = y22
        generalize f 23 = y23
        generalize f 24 = y24
        generalize f 25 = y25
        generalize f 26 = y26
        generalize f 27 = y27
        generalize f 28 = y28
        generalize f 29 = y29
        generalize f 30 = y30
        generalize f 31 = y31
        generalize f 32 = y32
        generalize f 33 = y33
        generalize f 34 = y34
        generalize f 35 = y35
        generalize f 36 = y36
        generalize f 37 = y37
        generalize f 38 = y38
        generalize f 39 = y39
        generalize f 40 = y40
        generalize f 41 = y41
        go_wp2_with fail
        go_meet
        case rel => exact ⟨rfl, X7⟩
      case rest =>
        obtain ⟨rfl, X7⟩ := hcut
        clear HLI HAL HLL
        replace I0 := Lib.hid (I0.out.ext X7.out)
        replace B0 := Lib.hid (Ex.trans B0.out X7.out)
        replace HCA := Lib.hid (HCA.out.ext X7.out)
        replace HCB := Lib.hid (HCB.out.ext X7.out)
        clear X7
        skip
        go_wp2_with (first | ((with_reducible refine so0 ?_ ?_); (focus rfl)) | (with_reducible refine stop_app ?_) | (with_reducible refine stop_slice ?_))
        (with_reducible refine at9 ?_ ?_); (focus go_simp); refine fun K0 hK => ld_ib _ B id HID.out rfl rfl I0.out (hK _ _ ?_)
        clear hK
        go_wp2_with (first | ((with_reducible refine so0 ?_ ?_); (focus rfl)) | (with_reducible refine stop_app ?_) | (with_reducible refine stop_slice ?_))
        (with_reducible refine at9 ?_ ?_); (focus go_simp); refine fun K0 hK => wp_build _ _ rfl _ (built_r23 id gen HID.out) (hK _ _ ?_)
        clear hK
        go_wp2_with (first | ((with_reducible refine so0 ?_ ?_); (focus rfl)) | (with_reducible refine stop_app ?_) | (with_reducible refine stop_slice ?_))
        have EOK : Hid ((endR9 id gen).Ok) := Lib.hid (endR9_ok HID.out HG.out)
        (with_reducible refine at9 ?_ ?_); (focus go_simp); refine fun K0 hK => st_r _ _ wc.heap.size (endR9 id gen) rfl rfl rfl EOK.out (Bk.new rfl _ _) (by rfl) (fun w8 hd ho => hK _ _ ?_)
        clear hK
        have x8 : Ex wc w8 := ho.below wc.heap.size (Nat.le_refl _) wc (Ex.alloc wc _)
        have HE := Lib.hid hd
        obtain ⟨ge, hge⟩ : ∃ g, g = wc.heap.size := ⟨_, rfl⟩
        rw [← hge] at HE ⊢
        have X8 := Lib.hid x8
        clear hd ho hge x8
        replace I0 := Lib.hid (I0.out.ext X8.out)
        go_wp2_with (first | ((with_reducible refine so0 ?_ ?_); (focus rfl)) | (with_reducible refine stop_app ?_) | (with_reducible refine stop_slice ?_))
        (with_reducible refine at9 ?_ ?_); (focus go_simp); refine fun K0 hK => ld_ib _ B id HID.out rfl rfl I0.out (hK _ _ ?_)
        clear hK
        go_wp2_with (first | ((with_reducible refine so0 ?_ ?_); (focus rfl)) | (with_reducible refine stop_app ?_) | (with_reducible refine stop_slice ?_))
        (with_reducible refine ⟨?_⟩)
        change wpList _ _ _ _ _ (w8.alloc (.cells #[.int .u8 115] 5 (1, 2)))
        have xa : Ex w8 (w8.alloc (.cells #[.int .u8 115] 5 (1, 2))) := Ex.alloc _ _
        have hb : (w8.alloc (.cells #[.int .u8 115] 5 (1, 2))).heap[w8.heap.size]? = some (.cells #[.int .u8 115] 5 (1, 2)) := by unfold World.alloc; exact Array.getElem?_push_size
        generalize hw9 : (w8.alloc (.cells #[.int .u8 115] 5 (1, 2))) = w9 at *
        obtain ⟨gs, hgs⟩ : ∃ g, g = w8.heap.size := ⟨_, rfl⟩
        rw [← hgs] at hb ⊢
        have HSN : Hid (SN9 w9 ⟨some ⟨gs, 0, none⟩, 1, [115]⟩) := Lib.hid ⟨⟨Nat.le_refl _, (fun h => by cases h), fun _ => ⟨gs, 0, rfl, blk_lt hb, fun i hi => by
            have hi : i < 1 := hi
            obtain rfl : i = 0 := by omega
            simp only [World.cell?, hb]
            rfl⟩⟩, fun a e => by cases e; exact ⟨_, _, hb⟩⟩
        replace HE := Lib.hid (HE.out.ext xa)
        replace I0 := Lib.hid (I0.out.ext xa)
        replace X8 := Lib.hid (Ex.trans X8.out xa)
        clear hw9 hgs hb xa hcv
        (with_reducible refine at_any ?_ ?_); (focus go_simp); refine fun K0 hK => wp_build _ _ rfl _ (built_r0s id gen gs HID.out) (hK _ _ ?_)
        clear hK
        go_wp2_with (first | ((with_reducible refine so0 ?_ ?_); (focus rfl)) | (with_reducible refine stop_app ?_) | (with_reducible refine stop_slice ?_))
        have TOK : Hid ((toldR9 id gen gs).Ok) := Lib.hid (toldR9_ok HID.out HG.out gs)
        (with_reducible refine at9 ?_ ?_); (focus go_simp); refine fun K0 hK => st_r _ _ w9.heap.size (toldR9 id gen gs) rfl rfl rfl TOK.out (Bk.new rfl _ _) (by rfl) (fun wz hd ho => hK _ _ ?_)
        clear hK
        have xz : Ex w9 wz := ho.below w9.heap.size (Nat.le_refl _) w9 (Ex.alloc w9 _)
        have HT := Lib.hid hd
        obtain ⟨gt, hgt⟩ : ∃ g, g = w9.heap.size := ⟨_, rfl⟩
        rw [← hgt] at HT ⊢
        replace HSN := Lib.hid (HSN.out.ext xz)
        replace HE := Lib.hid (HE.out.ext xz)
        replace X8 := Lib.hid (Ex.trans X8.out xz)
        clear hd ho hgt xz I0
        have XW := Lib.hid (Ex.trans B0.out X8.out)
        replace HCA := Lib.hid (HCA.out.ext X8.out)
        replace HCB := Lib.hid (HCB.out.ext X8.out)
        clear B0 X8
        go_wp2_with fail
        have EI : Hid (RI wz (endR9 id gen)) := Lib.hid ⟨EOK.out, nilB_in _ _⟩
        have TI : Hid (RI wz (toldR9 id gen gs)) := Lib.hid ⟨TOK.out, HSN.out.1⟩
        obtain ⟨E, hE⟩ : ∃ x, x = endR9 id gen := ⟨_, rfl⟩
        obtain ⟨T0, hT0⟩ : ∃ x, x = toldR9 id gen gs := ⟨_, rfl⟩
        have HAF : Hid (AfterP ((A ++ [E]) ++ (Bl ++ [T0]))) := Lib.hid (AfterP.ends (by rw [hE]; exact ⟨rfl, rfl⟩) (by rw [hT0]; exact ⟨rfl, by show 0 < 1; decide⟩) (by rw [hE, hT0]; rfl))
        rw [← hE] at EOK EI HE
        rw [← hT0] at TOK TI HT
        clear hE hT0 HSN
        obtain ⟨gz, hgz⟩ : ∃ g, g = wz.heap.size := ⟨_, rfl⟩
        have HGZ := Lib.hid hgz
        clear hgz
        have hS0 : ∀ (listed : Array Bool) (f : Nat → Value), (∀ i, listed.getD i false = false) → S10 wz gz A Bl E T0 listed f wz.drew := fun _ _ h0 => S10.start h0 (Below.refl wz.heap.size wz).drew
        obtain ⟨T, hT⟩ : ∃ T : List (Value → Prop), T = [(fun _ => True), (fun zz => zz = .slice ada na capa), (fun _ => True), (fun zz => zz = E.V), (fun _ => True), (fun _ => True), (fun zz => zz = .slice adb nb capb), (fun zz => zz = .slice adb nb capb), (fun zz => zz = .int .i64 (nb : Int)), (fun zz => zz = .slice adb nb capb), (fun zz => zz = .int .i64 (nb : Int)), (fun zz => zz = .slice adb nb nb), (fun zz => zz = T0.V), (fun _ => True), (fun _ => True), (fun _ => True), (fun zz => zz = .bool true), (fun zz => zz = .bool true), (fun zz => zz = .bool true), (fun zz => zz = .bool true), (fun zz => zz = .bool true)] := ⟨_, rfl⟩
        refine wp_region_gen (JS T ([(2, 0), (5, 2), (5, 4), (14, 13), (14, 5), (15, 5), (15, 14)] : List (Nat × Nat)) (fun lz fz wq => S10 wz gz A Bl E T0 lz fz wq)) (by kernel_rfl) (by kernel_rfl) (by kernel_rfl) (fitB_spec (by kernel_rfl)) (fun listed f h => JS.start listed f h (hS0 listed f h)) ?_ ?_
        · intro i o ho
          have hi : i < 21 := (Array.getElem?_eq_some_iff.1 ho).1
          have hi' : i = 0 ∨ i = 1 ∨ i = 2 ∨ i = 3 ∨ i = 4 ∨ i = 5 ∨ i = 6 ∨ i = 7 ∨ i = 8 ∨ i = 9 ∨ i = 10 ∨ i = 11 ∨ i = 12 ∨ i = 13 ∨ i = 14 ∨ i = 15 ∨ i = 16 ∨ i = 17 ∨ i = 18 ∨ i = 19 ∨ i = 20 := by omega
          clear hi
          rcases hi' with rfl | rfl | rfl | rfl | rfl | rfl | rfl | rfl | rfl | rfl | rfl | rfl | rfl | rfl | rfl | rfl | rfl | rfl | rfl | rfl | rfl
          all_goals (simp only [List.getElem?_toArray, List.getElem?_cons_zero, List.getElem?_cons_succ, Option.some.injEq] at ho; subst ho; intro listed f a w10 hJ hsz hls hun hdep hout hlat; first | (rw [if_pos (by rfl)]; intro K hK) | skip)
          · have hord : ∀ x ∈ ([(2, 0), (5, 2), (5, 4), (14, 13), (14, 5), (15, 5), (15, 14)] : List (Nat × Nat)), x.1 = 0 → listed.getD x.2 false = true := (by intro x hx he; simp only [List.mem_cons, List.not_mem_nil, or_false] at hx; rcases hx with rfl | rfl | rfl | rfl | rfl | rfl | rfl; all_goals first | (exact absurd he (by decide)) | assumption)
            have h2 : listed.getD 2 false = false := by
              cases hc : listed.getD 2 false with
              | false => rfl
              | true => exact absurd (hJ.ord (2, 0) (by simp) hc) (by rw [hun]; decide)
            have hst := hJ.st
            have hls2 := hls
            clear hsz hdep hout hlat
            go_simp
            exact hK _ _ (hJ.next (by rw [hls]; decide) (by rw [hT]; trivial) (S10.s0 hst (by rw [hls2]; decide) h2 rfl (Ex.alloc _ _) (Emp.own ⟨w10.heap.size, rfl, by rw [HGZ.out]; exact Below.size hst.ex, Bk.new rfl _ _⟩ 10)) hord)
          · have q0 := hout 0 (outB_spec (by kernel_rfl))
            have hord : ∀ x ∈ ([(2, 0), (5, 2), (5, 4), (14, 13), (14, 5), (15, 5), (15, 14)] : List (Nat × Nat)), x.1 = 1 → listed.getD x.2 false = true := (by intro x hx he; simp only [List.mem_cons, List.not_mem_nil, or_false] at hx; rcases hx with rfl | rfl | rfl | rfl | rfl | rfl | rfl; all_goals first | (exact absurd he (by decide)) | assumption)
            refine wp_mv _ rfl (hK _ _ ?_)
            rw [show a.eval (.tmp 0) = .slice ada na capa from q0]
            exact hJ.next (by rw [hls]; decide) (by rw [hT]; rfl) (S10.plain hJ.st (Ex.refl _) 1 (by decide)) hord
          · have dd78 := hdep ⟨0, .data⟩ (by simp) rfl
            have q78 := dd78.2 _ rfl _ rfl
            have q79 := hJ.is hT (hdep ⟨1, .data⟩ (by simp) rfl) rfl _ rfl _ rfl
            have hl0 := (hdep ⟨0, .data⟩ (by simp) rfl).1
            have hord : ∀ x ∈ ([(2, 0), (5, 2), (5, 4), (14, 13), (14, 5), (15, 5), (15, 14)] : List (Nat × Nat)), x.1 = 2 → listed.getD x.2 false = true := (by intro x hx he; simp only [List.mem_cons, List.not_mem_nil, or_false] at hx; rcases hx with rfl | rfl | rfl | rfl | rfl | rfl | rfl; all_goals first | (exact absurd he (by decide)) | assumption)
            have h5 : listed.getD 5 false = false := by
              cases hc : listed.getD 5 false with
              | false => rfl
              | true => exact absurd (hJ.ord (5, 2) (by simp) hc) (by rw [hun]; decide)
            have h14 : listed.getD 14 false = false := by
              cases hc : listed.getD 14 false with
              | false => rfl
              | true => exact absurd (hJ.ord (5, 2) (by simp) (hJ.ord (14, 5) (by simp) hc)) (by rw [hun]; decide)
            have h15 : listed.getD 15 false = false := by
              cases hc : listed.getD 15 false with
              | false => rfl
              | true => exact absurd (hJ.ord (5, 2) (by simp) (hJ.ord (15, 5) (by simp) hc)) (by rw [hun]; decide)
            have hst := hJ.st
            have hl0 := (hdep ⟨0, .data⟩ (by simp) rfl).1
            have hr0 := hst.e0 hl0 hun
            exact wp_gapp _ _ 98 83 zeroRt.V 10 72 rfl Try.underlying98 Try.infoRt rfl (by decide) gz 0 _ [] q78 hr0 (by rw [HGZ.out]; exact Below.size hst.ex) ada na capa (A.flatMap Rt.C) q79 (by rw [HNA.out]; exact (HCA.out.ext hst.ex).rd) (by rw [HNA.out]; exact HCA.out.len) HCA.out.nil (gflat_one Rt.C fun x _ => x.C_one) (by omega) (by omega) (fun v5 w5 r1 r2 r3 => hK _ _ (hJ.next (by rw [hls]; decide) (by rw [hT]; trivial) (S10.s2 hst (by rw [hls]; decide) hl0 hun h5 h14 h15 (own_grown hst.ex hr0 (by rw [HGZ.out]; exact Nat.le_refl _) r2) r2 r3 (by rw [← HNA.out]; simpa using r1)) hord))
          · have q10 := hout 10 (outB_spec (by kernel_rfl))
            have hord : ∀ x ∈ ([(2, 0), (5, 2), (5, 4), (14, 13), (14, 5), (15, 5), (15, 14)] : List (Nat × Nat)), x.1 = 3 → listed.getD x.2 false = true := (by intro x hx he; simp only [List.mem_cons, List.not_mem_nil, or_false] at hx; rcases hx with rfl | rfl | rfl | rfl | rfl | rfl | rfl; all_goals first | (exact absurd he (by decide)) | assumption)
            exact ld_r _ ge E rfl q10 (HE.out.ext hJ.st.ex) (hK _ _ (hJ.next (by rw [hls]; decide) (by rw [hT]; rfl) (S10.plain hJ.st (Ex.refl _) 3 (by decide)) hord))
          · have q81 := hJ.is hT (hdep ⟨3, .data⟩ (by simp) rfl) rfl _ rfl _ rfl
            have hord : ∀ x ∈ ([(2, 0), (5, 2), (5, 4), (14, 13), (14, 5), (15, 5), (15, 14)] : List (Nat × Nat)), x.1 = 4 → listed.getD x.2 false = true := (by intro x hx he; simp only [List.mem_cons, List.not_mem_nil, or_false] at hx; rcases hx with rfl | rfl | rfl | rfl | rfl | rfl | rfl; all_goals first | (exact absurd he (by decide)) | assumption)
            have h5 : listed.getD 5 false = false := by
              cases hc : listed.getD 5 false with
              | false => rfl
              | true => exact absurd (hJ.ord (5, 4) (by simp) hc) (by rw [hun]; decide)
            have hst := hJ.st
            exact wp_bs1 98 83 zeroRt.V 10 72 _ E.C rfl Try.underlying98 Try.infoRt rfl (by decide) (by decide) (Rt.len EOK.out) q81 (hK _ _ (hJ.next (by rw [hls]; decide) (by rw [hT]; trivial) (S10.s4 hst (by rw [hls]; decide) h5 rfl (Ex.alloc _ _) (Bk.new rfl _ _)) hord))
          · have dd80 := hdep ⟨2, .data⟩ (by simp) rfl
            have q80 := dd80.2 _ rfl _ rfl
            have dd82 := hdep ⟨4, .data⟩ (by simp) rfl
            have q82 := dd82.2 _ rfl _ rfl
            have hl2 := (hdep ⟨2, .data⟩ (by simp) rfl).1
            have hl4 := (hdep ⟨4, .data⟩ (by simp) rfl).1
            have hord : ∀ x ∈ ([(2, 0), (5, 2), (5, 4), (14, 13), (14, 5), (15, 5), (15, 14)] : List (Nat × Nat)), x.1 = 5 → listed.getD x.2 false = true := (by intro x hx he; simp only [List.mem_cons, List.not_mem_nil, or_false] at hx; rcases hx with rfl | rfl | rfl | rfl | rfl | rfl | rfl; all_goals first | (exact absurd he (by decide)) | assumption)
            have h14 : listed.getD 14 false = false := by
              cases hc : listed.getD 14 false with
              | false => rfl
              | true => exact absurd (hJ.ord (14, 5) (by simp) hc) (by rw [hun]; decide)
            have h15 : listed.getD 15 false = false := by
              cases hc : listed.getD 15 false with
              | false => rfl
              | true => exact absurd (hJ.ord (15, 5) (by simp) hc) (by rw [hun]; decide)
            have hst := hJ.st
            have hl2 := (hdep ⟨2, .data⟩ (by simp) rfl).1
            have hl4 := (hdep ⟨4, .data⟩ (by simp) rfl).1
            have hr2 := hst.e2 hl2 hun
            obtain ⟨g4, e4, hb4⟩ := hst.e4 hl4 hun
            rw [e4] at q82
            obtain ⟨adx, ex, nx, rx⟩ := Many.rd (n := 1) (sz := 10) ⟨g4, rfl, hb4⟩ (Rt.len EOK.out)
            cases ex
            exact wp_gapp _ _ 98 83 zeroRt.V 10 72 rfl Try.underlying98 Try.infoRt rfl (by decide) gz A.length _ _ q80 hr2 (by rw [HGZ.out]; exact Below.size hst.ex) _ 1 1 _ q82 rx (Nat.le_refl _) (fun h => by cases h) E.C_one (by have := HNA.out; omega) (by have := HNA.out; omega) (fun v5 w5 r1 r2 r3 => hK _ _ (hJ.next (by rw [hls]; decide) (by rw [hT]; trivial) (S10.s5 hst (by rw [hls]; decide) hl2 hun h14 h15 (own_grown hst.ex hr2 (by rw [HGZ.out]; exact Nat.le_refl _) r2) r2 r1) hord))
          · have q1 := hout 1 (outB_spec (by kernel_rfl))
            have hord : ∀ x ∈ ([(2, 0), (5, 2), (5, 4), (14, 13), (14, 5), (15, 5), (15, 14)] : List (Nat × Nat)), x.1 = 6 → listed.getD x.2 false = true := (by intro x hx he; simp only [List.mem_cons, List.not_mem_nil, or_false] at hx; rcases hx with rfl | rfl | rfl | rfl | rfl | rfl | rfl; all_goals first | (exact absurd he (by decide)) | assumption)
            refine wp_mv _ rfl (hK _ _ ?_)
            rw [show a.eval (.tmp 1) = .slice adb nb capb from q1]
            exact hJ.next (by rw [hls]; decide) (by rw [hT]; rfl) (S10.plain hJ.st (Ex.refl _) 6 (by decide)) hord
          · have q1 := hout 1 (outB_spec (by kernel_rfl))
            have hord : ∀ x ∈ ([(2, 0), (5, 2), (5, 4), (14, 13), (14, 5), (15, 5), (15, 14)] : List (Nat × Nat)), x.1 = 7 → listed.getD x.2 false = true := (by intro x hx he; simp only [List.mem_cons, List.not_mem_nil, or_false] at hx; rcases hx with rfl | rfl | rfl | rfl | rfl | rfl | rfl; all_goals first | (exact absurd he (by decide)) | assumption)
            refine wp_mv _ rfl (hK _ _ ?_)
            rw [show a.eval (.tmp 1) = .slice adb nb capb from q1]
            exact hJ.next (by rw [hls]; decide) (by rw [hT]; rfl) (S10.plain hJ.st (Ex.refl _) 7 (by decide)) hord
          · have q85 := hJ.is hT (hdep ⟨7, .data⟩ (by simp) rfl) rfl _ rfl _ rfl
            have hord : ∀ x ∈ ([(2, 0), (5, 2), (5, 4), (14, 13), (14, 5), (15, 5), (15, 14)] : List (Nat × Nat)), x.1 = 8 → listed.getD x.2 false = true := (by intro x hx he; simp only [List.mem_cons, List.not_mem_nil, or_false] at hx; rcases hx with rfl | rfl | rfl | rfl | rfl | rfl | rfl; all_goals first | (exact absurd he (by decide)) | assumption)
            rw [Array.getD_eq_getD_getElem?] at q85
            clear hsz hdep hout hlat
            go_simp
            exact hK _ _ (hJ.next (by rw [hls]; decide) (by rw [hT]; first | rfl | exact congrArg (Value.int .i64) (by omega) | exact congrArg (Value.int .i64) (by rw [IntKind.wrap_i64]; omega) | exact congrArg Value.bool (decide_eq_false (by omega)) | exact congrArg Value.bool (decide_eq_true (by omega)) | exact congrArg (Value.int .u64) (by omega)) (S10.plain hJ.st (Ex.refl _) 8 (by decide)) hord)
          · have q1 := hout 1 (outB_spec (by kernel_rfl))
            have hord : ∀ x ∈ ([(2, 0), (5, 2), (5, 4), (14, 13), (14, 5), (15, 5), (15, 14)] : List (Nat × Nat)), x.1 = 9 → listed.getD x.2 false = true := (by intro x hx he; simp only [List.mem_cons, List.not_mem_nil, or_false] at hx; rcases hx with rfl | rfl | rfl | rfl | rfl | rfl | rfl; all_goals first | (exact absurd he (by decide)) | assumption)
            refine wp_mv _ rfl (hK _ _ ?_)
            rw [show a.eval (.tmp 1) = .slice adb nb capb from q1]
            exact hJ.next (by rw [hls]; decide) (by rw [hT]; rfl) (S10.plain hJ.st (Ex.refl _) 9 (by decide)) hord
          · have q87 := hJ.is hT (hdep ⟨9, .data⟩ (by simp) rfl) rfl _ rfl _ rfl
            have hord : ∀ x ∈ ([(2, 0), (5, 2), (5, 4), (14, 13), (14, 5), (15, 5), (15, 14)] : List (Nat × Nat)), x.1 = 10 → listed.getD x.2 false = true := (by intro x hx he; simp only [List.mem_cons, List.not_mem_nil, or_false] at hx; rcases hx with rfl | rfl | rfl | rfl | rfl | rfl | rfl; all_goals first | (exact absurd he (by decide)) | assumption)
            rw [Array.getD_eq_getD_getElem?] at q87
            clear hsz hdep hout hlat
            go_simp
            exact hK _ _ (hJ.next (by rw [hls]; decide) (by rw [hT]; first | rfl | exact congrArg (Value.int .i64) (by omega) | exact congrArg (Value.int .i64) (by rw [IntKind.wrap_i64]; omega) | exact congrArg Value.bool (decide_eq_false (by omega)) | exact congrArg Value.bool (decide_eq_true (by omega)) | exact congrArg (Value.int .u64) (by omega)) (S10.plain hJ.st (Ex.refl _) 10 (by decide)) hord)
          · have q84 := hJ.is hT (hdep ⟨6, .data⟩ (by simp) rfl) rfl _ rfl _ rfl
            have q86 := hJ.is hT (hdep ⟨8, .data⟩ (by simp) rfl) rfl _ rfl _ rfl
            have q88 := hJ.is hT (hdep ⟨10, .data⟩ (by simp) rfl) rfl _ rfl _ rfl
            have hord : ∀ x ∈ ([(2, 0), (5, 2), (5, 4), (14, 13), (14, 5), (15, 5), (15, 14)] : List (Nat × Nat)), x.1 = 11 → listed.getD x.2 false = true := (by intro x hx he; simp only [List.mem_cons, List.not_mem_nil, or_false] at hx; rcases hx with rfl | rfl | rfl | rfl | rfl | rfl | rfl; all_goals first | (exact absurd he (by decide)) | assumption)
            exact wp_sl_hm 98 _ _ _ rfl Try.sl98 10 Try.sz98 adb nb capb nb q84 q86 q88 (by rw [HNB.out]; exact HCB.out.len) (hK _ _ (hJ.next (by rw [hls]; decide) (by rw [hT]; rfl) (S10.plain hJ.st (Ex.refl _) 11 (by decide)) hord))
          · have q11 := hout 11 (outB_spec (by kernel_rfl))
            have hord : ∀ x ∈ ([(2, 0), (5, 2), (5, 4), (14, 13), (14, 5), (15, 5), (15, 14)] : List (Nat × Nat)), x.1 = 12 → listed.getD x.2 false = true := (by intro x hx he; simp only [List.mem_cons, List.not_mem_nil, or_false] at hx; rcases hx with rfl | rfl | rfl | rfl | rfl | rfl | rfl; all_goals first | (exact absurd he (by decide)) | assumption)
            exact ld_r _ gt T0 rfl q11 (HT.out.ext hJ.st.ex) (hK _ _ (hJ.next (by rw [hls]; decide) (by rw [hT]; rfl) (S10.plain hJ.st (Ex.refl _) 12 (by decide)) hord))
          · have q90 := hJ.is hT (hdep ⟨12, .data⟩ (by simp) rfl) rfl _ rfl _ rfl
            have hord : ∀ x ∈ ([(2, 0), (5, 2), (5, 4), (14, 13), (14, 5), (15, 5), (15, 14)] : List (Nat × Nat)), x.1 = 13 → listed.getD x.2 false = true := (by intro x hx he; simp only [List.mem_cons, List.not_mem_nil, or_false] at hx; rcases hx with rfl | rfl | rfl | rfl | rfl | rfl | rfl; all_goals first | (exact absurd he (by decide)) | assumption)
            have h14 : listed.getD 14 false = false := by
              cases hc : listed.getD 14 false with
              | false => rfl
              | true => exact absurd (hJ.ord (14, 13) (by simp) hc) (by rw [hun]; decide)
            have hst := hJ.st
            exact wp_bs1 98 83 zeroRt.V 10 72 _ T0.C rfl Try.underlying98 Try.infoRt rfl (by decide) (by decide) (Rt.len TOK.out) q90 (hK _ _ (hJ.next (by rw [hls]; decide) (by rw [hT]; trivial) (S10.s13 hst (by rw [hls]; decide) h14 rfl (Ex.alloc _ _) (Bk.new rfl _ _)) hord))
          · have q89 := hJ.is hT (hdep ⟨11, .data⟩ (by simp) rfl) rfl _ rfl _ rfl
            have dd91 := hdep ⟨13, .data⟩ (by simp) rfl
            have q91 := dd91.2 _ rfl _ rfl
            have hl13 := (hdep ⟨13, .data⟩ (by simp) rfl).1
            have hl5 := (hdep ⟨5, .chain⟩ (by simp) rfl).1
            have hord : ∀ x ∈ ([(2, 0), (5, 2), (5, 4), (14, 13), (14, 5), (15, 5), (15, 14)] : List (Nat × Nat)), x.1 = 14 → listed.getD x.2 false = true := (by intro x hx he; simp only [List.mem_cons, List.not_mem_nil, or_false] at hx; rcases hx with rfl | rfl | rfl | rfl | rfl | rfl | rfl; all_goals first | (exact absurd he (by decide)) | assumption)
            have h15 : listed.getD 15 false = false := by
              cases hc : listed.getD 15 false with
              | false => rfl
              | true => exact absurd (hJ.ord (15, 14) (by simp) hc) (by rw [hun]; decide)
            have hst := hJ.st
            have hl13 := (hdep ⟨13, .data⟩ (by simp) rfl).1
            obtain ⟨g13, e13, hb13⟩ := hst.e13 hl13 hun
            rw [e13] at q91
            obtain ⟨adx, ex, nx, rx⟩ := Many.rd (n := 1) (sz := 10) ⟨g13, rfl, hb13⟩ (Rt.len TOK.out)
            cases ex
            exact wp_full _ _ 98 83 zeroRt.V 10 72 rfl Try.underlying98 Try.infoRt rfl (by decide) gz (by rw [HGZ.out]; exact Below.size hst.ex) adb nb (Bl.flatMap Rt.C) q89 (by rw [HNB.out]; exact (HCB.out.ext hst.ex).rd) (fun h => by have h1 := HCB.out.nil h; have h2 := HCB.out.len; have := HNB.out; omega) _ 1 1 _ q91 rx (by decide) T0.C_one (by omega) (by omega) (fun v5 w5 r1 r2 => hK _ _ (hJ.next (by rw [hls]; decide) (by rw [hT]; trivial) (S10.s14 hst (by rw [hls]; decide) h15 r2 (by rw [← HNB.out]; exact r1)) hord))
          · have dd83 := hdep ⟨5, .data⟩ (by simp) rfl
            have q83 := dd83.2 _ rfl _ rfl
            have dd92 := hdep ⟨14, .data⟩ (by simp) rfl
            have q92 := dd92.2 _ rfl _ rfl
            have hl5 := (hdep ⟨5, .data⟩ (by simp) rfl).1
            have hl14 := (hdep ⟨14, .data⟩ (by simp) rfl).1
            have hord : ∀ x ∈ ([(2, 0), (5, 2), (5, 4), (14, 13), (14, 5), (15, 5), (15, 14)] : List (Nat × Nat)), x.1 = 15 → listed.getD x.2 false = true := (by intro x hx he; simp only [List.mem_cons, List.not_mem_nil, or_false] at hx; rcases hx with rfl | rfl | rfl | rfl | rfl | rfl | rfl; all_goals first | (exact absurd he (by decide)) | assumption)
            have hst := hJ.st
            have hl5 := (hdep ⟨5, .data⟩ (by simp) rfl).1
            have hl14 := (hdep ⟨14, .data⟩ (by simp) rfl).1
            have hl2 := hJ.ord (5, 2) (by simp) hl5
            have hr5 := hst.e5 hl5 hun
            have hr14 := hst.e14 hl14 hun
            obtain ⟨ad14, cap14, e14, hnil14, hc14, _, hrd14⟩ := own_rd hr14
            rw [e14] at q92
            exact wp_gapp _ _ 98 83 zeroRt.V 10 72 rfl Try.underlying98 Try.infoRt rfl (by decide) gz (A.length + 1) _ _ q83 hr5 (by rw [HGZ.out]; exact Below.size hst.ex) ad14 (Bl.length + 1) cap14 _ q92 hrd14 hc14 hnil14 (fun u hu => by rcases List.mem_append.1 hu with h | h; exact gflat_one Rt.C (fun x _ => x.C_one) u h; exact T0.C_one u h) (by have := HNA.out; have := HNB.out; omega) (by have := HNA.out; have := HNB.out; omega) (fun v5 w5 r1 r2 r3 => hK _ _ (hJ.next (by rw [hls]; decide) (by rw [hT]; trivial) (S10.s15 hst (by rw [hls]; decide) hl2 hl5 hl14 (own_grown hst.ex hr5 (by rw [HGZ.out]; exact Nat.le_refl _) r2) r1) hord))
          · have dd93 := hdep ⟨15, .data⟩ (by simp) rfl
            have q93 := dd93.2 _ rfl _ rfl
            have hord : ∀ x ∈ ([(2, 0), (5, 2), (5, 4), (14, 13), (14, 5), (15, 5), (15, 14)] : List (Nat × Nat)), x.1 = 16 → listed.getD x.2 false = true := (by intro x hx he; simp only [List.mem_cons, List.not_mem_nil, or_false] at hx; rcases hx with rfl | rfl | rfl | rfl | rfl | rfl | rfl; all_goals first | (exact absurd he (by decide)) | assumption)
            have hst := hJ.st
            have hl15 := (hdep ⟨15, .data⟩ (by simp) rfl).1
            have hr15 := hst.e15 hl15
            have e9 : (A.flatMap Rt.C ++ E.C) ++ (Bl.flatMap Rt.C ++ T0.C) = ((A ++ [E]) ++ (Bl ++ [T0])).flatMap Rt.C := by rw [List.flatMap_append, List.flatMap_append, List.flatMap_append, List.flatMap_singleton, List.flatMap_singleton]
            rw [e9] at hr15
            have n9 : (A.length + 1) + (Bl.length + 1) = ((A ++ [E]) ++ (Bl ++ [T0])).length := by rw [List.length_append, List.length_append, List.length_append]; rfl
            have hri : ∀ x ∈ (A ++ [E]) ++ (Bl ++ [T0]), RI w10 x := fun x hx => by
              have xw := hst.ex
              rcases List.mem_append.1 hx with h | h
              · rcases List.mem_append.1 h with h | h
                · obtain ⟨i, hi, e⟩ := List.getElem_of_mem h
                  exact (HCA.out.ext xw).ins i x (by rw [List.getElem?_eq_getElem hi, e])
                rw [List.mem_singleton.1 h]; exact EI.out.ext xw
              rcases List.mem_append.1 h with h | h
              · obtain ⟨i, hi, e⟩ := List.getElem_of_mem h
                exact (HCB.out.ext xw).ins i x (by rw [List.getElem?_eq_getElem hi, e])
              rw [List.mem_singleton.1 h]; exact TI.out.ext xw
            obtain ⟨lz, hlz⟩ : ∃ l, l = (A ++ [E]) ++ (Bl ++ [T0]) := ⟨_, rfl⟩
            have nz9 : lz.length ≤ 100 := by rw [hlz, ← n9, ← HNA.out, ← HNB.out]; omega
            have haf : AfterP lz := by rw [hlz]; exact HAF.out
            rw [← hlz] at hr15 n9 hri
            obtain ⟨adz, capz, e15, hz⟩ := Rp.of_own n9 hr15 hri
            rw [e15] at q93
            have CF := aft_any adz capz lz w10 (by omega) hz
            rw [(aftB_iff _).2 haf] at CF
            obtain ⟨nz, hnz⟩ : ∃ n, n = lz.length := ⟨_, rfl⟩
            rw [← hnz] at q93 CF
            have CF2 := Lib.hid CF
            clear CF hnz hr15 e15 hz n9 hri hlz nz9 haf e9 lz dd93 hl15
            rw [Array.getD_eq_getD_getElem?] at q93
            clear hsz hdep hout hlat
            go_simp
            refine CF2.out.mono ?_
            rintro e wq ⟨rfl, xq⟩
            exact hK _ _ (hJ.next (by rw [hls]; decide) (by rw [hT]; rfl) (S10.plain hst xq 16 (by decide)) hord)
          · have q94 := hJ.is hT (hdep ⟨16, .data⟩ (by simp) rfl) rfl _ rfl _ rfl
            have hord : ∀ x ∈ ([(2, 0), (5, 2), (5, 4), (14, 13), (14, 5), (15, 5), (15, 14)] : List (Nat × Nat)), x.1 = 17 → listed.getD x.2 false = true := (by intro x hx he; simp only [List.mem_cons, List.not_mem_nil, or_false] at hx; rcases hx with rfl | rfl | rfl | rfl | rfl | rfl | rfl; all_goals first | (exact absurd he (by decide)) | assumption)
            refine wp_mv _ rfl (hK _ _ ?_)
            rw [show a.eval (.tmp 94) = .bool true from q94]
            exact hJ.next (by rw [hls]; decide) (by rw [hT]; rfl) (S10.plain hJ.st (Ex.refl _) 17 (by decide)) hord
          · have ddg := hdep ⟨17, .guard⟩ (by simp) rfl
            have kg := ddg.2 _ rfl _ rfl
            have hg := hJ.vals 17 ddg.1
            rw [hT] at hg
            rw [show f 17 = .bool true from hg] at kg
            clear hg ddg
            rw [if_pos (wanted_of rfl rfl rfl kg)]
            clear kg
            intro K hK
            have hord : ∀ x ∈ ([(2, 0), (5, 2), (5, 4), (14, 13), (14, 5), (15, 5), (15, 14)] : List (Nat × Nat)), x.1 = 18 → listed.getD x.2 false = true := (by intro x hx he; simp only [List.mem_cons, List.not_mem_nil, or_false] at hx; rcases hx with rfl | rfl | rfl | rfl | rfl | rfl | rfl; all_goals first | (exact absurd he (by decide)) | assumption)
            have hst := hJ.st
            clear hsz hdep hout hlat
            go_simp
            refine (known25 w10).mono ?_
            rintro e wq ⟨rfl, xq⟩
            exact hK _ _ (hJ.next (by rw [hls]; decide) (by rw [hT]; rfl) (S10.plain hst xq 18 (by decide)) hord)
          · have q95 := hJ.is hT (hdep ⟨17, .data⟩ (by simp) rfl) rfl _ rfl _ rfl
            have q96 := hJ.is hT (hdep ⟨18, .data⟩ (by simp) rfl) rfl _ rfl _ rfl
            have hord : ∀ x ∈ ([(2, 0), (5, 2), (5, 4), (14, 13), (14, 5), (15, 5), (15, 14)] : List (Nat × Nat)), x.1 = 19 → listed.getD x.2 false = true := (by intro x hx he; simp only [List.mem_cons, List.not_mem_nil, or_false] at hx; rcases hx with rfl | rfl | rfl | rfl | rfl | rfl | rfl; all_goals first | (exact absurd he (by decide)) | assumption)
            rw [Array.getD_eq_getD_getElem?] at q95
            rw [Array.getD_eq_getD_getElem?] at q96
            clear hsz hdep hout hlat
            go_simp
            exact hK _ _ (hJ.next (by rw [hls]; decide) (by rw [hT]; first | rfl | exact congrArg (Value.int .i64) (by omega) | exact congrArg (Value.int .i64) (by rw [IntKind.wrap_i64]; omega) | exact congrArg Value.bool (decide_eq_false (by omega)) | exact congrArg Value.bool (decide_eq_true (by omega)) | exact congrArg (Value.int .u64) (by omega)) (S10.plain hJ.st (Ex.refl _) 19 (by decide)) hord)
          have q97 := hJ.is hT (hdep ⟨19, .data⟩ (by simp) rfl) rfl _ rfl _ rfl
          have hord : ∀ x ∈ ([(2, 0), (5, 2), (5, 4), (14, 13), (14, 5), (15, 5), (15, 14)] : List (Nat × Nat)), x.1 = 20 → listed.getD x.2 false = true := (by intro x hx he; simp only [List.mem_cons, List.not_mem_nil, or_false] at hx; rcases hx with rfl | rfl | rfl | rfl | rfl | rfl | rfl; all_goals first | (exact absurd he (by decide)) | assumption)
          rw [Array.getD_eq_getD_getElem?] at q97
          clear hsz hdep hout hlat
          go_simp
          exact hK _ _ (hJ.next (by rw [hls]; decide) (by rw [hT]; first | rfl | exact congrArg (Value.int .i64) (by omega) | exact congrArg (Value.int .i64) (by rw [IntKind.wrap_i64]; omega) | exact congrArg Value.bool (decide_eq_false (by omega)) | exact congrArg Value.bool (decide_eq_true (by omega)) | exact congrArg (Value.int .u64) (by omega)) (S10.plain hJ.st (Ex.refl _) 20 (by decide)) hord)
        intro listed f w10 hall hJ
        have f20 : f 20 = .bool true := by
          have h := hJ.vals 20 (hall 20 (by simp))
          rw [hT] at h; exact h
        have hst := hJ.st
        simp only [putAll, Act.put, List.setIfInBounds_toArray, List.set_cons_zero, List.set_cons_succ, Nat.zero_add, Nat.reduceAdd]
        have X9 : Hid (Ex w w10) := Lib.hid (Ex.trans XW.out hst.ex)
        clear hst hS0
        rw [f20]
        clear f20
        clear hJ hall hT
        generalize f 0 = y0
        generalize f 1 = y1
        generalize f 2 = y2
        generalize f 3 = y3
        generalize f 4 = y4
        generalize f 5 = y5
        generalize f 6 = y6
        generalize f 7 = y7
        generalize f 8 = y8
        generalize f 9 = y9
        generalize f 10 = y10
        generalize f 11 = y11
        generalize f 12 = y12
        generalize f 13 = y13
        generalize f 14 = y14
        generalize f 15 = y15
        generalize f 16 = y16
        generalize f 17 = y17
        generalize f 18 = y18
        generalize f 19 = y19
        go_wp2_with fail
        go_ret
        exact ⟨rfl, X9.out⟩
end Go.Proofs.Ytmjfnpmnhehnkaa
