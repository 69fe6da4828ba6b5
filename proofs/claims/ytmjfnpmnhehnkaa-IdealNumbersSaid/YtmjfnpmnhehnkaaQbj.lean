/- Wi -/
import Derived.Test.YtmjfnpmnhehnkaaQbi
namespace Go.Proofs.Ytmjfnpmnhehnkaa
open Go.RowKit
def keyL (id : List UInt8) : Int := Sm.shV id * 4294967296 + idn id
theorem idn_lt {id : List UInt8} (h : id.length = 4) : idn id < 4294967296 := by
 obtain ⟨a, b, c, d, rfl⟩ := len4 h
 have ha := a.toNat_lt; have hb := b.toNat_lt; have hc := c.toNat_lt; have hd := d.toNat_lt
 show a.toNat * 16777216 + b.toNat * 65536 + c.toNat * 256 + d.toNat < 4294967296
 omega
theorem lat_key {a b : List UInt8} (ha : a.length = 4) (hb : b.length = 4) : lat a b = decide (keyL b < keyL a) := by
 have h1 := idn_lt ha
 have h2 := idn_lt hb
 unfold lat keyL
 congr 1
 generalize Sm.shV a = x at *
 generalize Sm.shV b = y at *
 exact propext ⟨fun h => by rcases h with h | ⟨h, h3⟩ <;> omega, fun h => by omega⟩
theorem key_inj {a b : List UInt8} (ha : a.length = 4) (hb : b.length = 4) (h : keyL a = keyL b) : a = b := by
 have h1 := idn_lt ha
 have h2 := idn_lt hb
 unfold keyL at h
 generalize Sm.shV a = x at *
 generalize Sm.shV b = y at *
 exact idn_inj ha hb (by omega)
/-- by shard, then by ID -/
def SortL (zs : List Vt) : Prop := ∀ (i j : Nat) (x y : Vt), i < j → zs[i]? = some x → zs[j]? = some y → keyL x.id < keyL y.id
theorem SortL.ins {zs : List Vt} (h : SortL zs) {x : Vt} {k : Nat} (hk : k ≤ zs.length) (lo : ∀ (j : Nat) (y : Vt), j < k → zs[j]? = some y → keyL y.id < keyL x.id) (hi : ∀ (j : Nat) (y : Vt), k ≤ j → zs[j]? = some y → keyL x.id < keyL y.id) : SortL (zs.take k ++ x :: zs.drop k) := by
 have ht : (zs.take k).length = k := by rw [List.length_take]; omega
 have cases3 : ∀ (i : Nat) (y : Vt), (zs.take k ++ x :: zs.drop k)[i]? = some y → (i < k ∧ zs[i]? = some y) ∨ (i = k ∧ y = x) ∨ (k < i ∧ zs[i - 1]? = some y) := fun i y hy => by
  rcases Nat.lt_trichotomy i k with h1 | h1 | h1
  ·rw [List.getElem?_append_left (by omega), List.getElem?_take, if_pos h1] at hy
   exact Or.inl ⟨h1, hy⟩
  ·rw [List.getElem?_append_right (by omega), ht, show i - k = 0 by omega] at hy
   exact Or.inr (Or.inl ⟨h1, by simpa using hy.symm⟩)
  rw [List.getElem?_append_right (by omega), ht, show i - k = (i - k - 1) + 1 by omega, List.getElem?_cons_succ, List.getElem?_drop, show k + (i - k - 1) = i - 1 by omega] at hy
  exact Or.inr (Or.inr ⟨h1, hy⟩)
 intro i j a b hij ha hb
 rcases cases3 i a ha with ⟨h1, h2⟩ | ⟨h1, rfl⟩ | ⟨h1, h2⟩ <;> rcases cases3 j b hb with ⟨h3, h4⟩ | ⟨h3, rfl⟩ | ⟨h3, h4⟩
 ·exact h i j a b hij h2 h4
 ·exact lo i a h1 h2
 ·exact h i (j - 1) a b (by omega) h2 h4
 ·omega
 ·omega
 ·exact hi (j - 1) b (by omega) h4
 ·omega
 ·omega
 exact h (i - 1) (j - 1) a b (by omega) h2 h4
theorem mem_ins {zs : List Vt} {x : Vt} (k : Nat) (y : Vt) : y ∈ zs.take k ++ x :: zs.drop k ↔ y = x ∨ y ∈ zs := by
 rw [List.mem_append, List.mem_cons]
 have : y ∈ zs ↔ y ∈ zs.take k ∨ y ∈ zs.drop k := by rw [← List.mem_append, List.take_append_drop]
 rw [this]
 constructor
 ·rintro (h | h | h)
  ·exact Or.inr (Or.inl h)
  ·exact Or.inl h
  exact Or.inr (Or.inr h)
 rintro (h | h | h)
 ·exact Or.inr (Or.inl h)
 ·exact Or.inl h
 exact Or.inr (Or.inr h)
theorem flat_take9 {vs : List Vt} (h : ∀ x ∈ vs, x.Ok) (k : Nat) : (vs.flatMap Vt.C).take (k * 42) = (vs.take k).flatMap Vt.C := vflat_take (fun i x hx => h x (List.mem_of_getElem? hx)) k
theorem flat_drop9 {vs : List Vt} (h : ∀ x ∈ vs, x.Ok) (k : Nat) : (vs.flatMap Vt.C).drop (k * 42) = (vs.drop k).flatMap Vt.C := vflat_drop (fun i x hx => h x (List.mem_of_getElem? hx)) k
/-- the state of region 8: rows that are made -/
structure S8 (w5 : World) (zs : List Vt) (x : Vt) (k : Nat) (l : Array Bool) (f : Nat → Value) (w : World) : Prop where
 ex : Ex w5 w
 e0 : l.getD 0 false = true → l.getD 4 false = false → Emp w5.heap.size w 36 (f 0)
 e4 : l.getD 4 false = true → l.getD 13 false = false → w.ownsRow w5.heap.size 36 42 (f 4) k ((zs.take k).flatMap Vt.C)
 e12 : l.getD 12 false = true → l.getD 13 false = false → ∃ g, f 12 = .slice (some ⟨g, 0, none⟩) 1 1 ∧ Bk w g 36 x.C.toArray ∧ w5.heap.size ≤ g
 e13 : l.getD 13 false = true → l.getD 17 false = false → w.ownsRow w5.heap.size 36 42 (f 13) (k + 1) ((zs.take k ++ [x]).flatMap Vt.C)
 e17 : l.getD 17 false = true → w.ownsRow w5.heap.size 36 42 (f 17) (zs.length + 1) ((zs.take k ++ x :: zs.drop k).flatMap Vt.C)
 e18 : l.getD 18 false = true → f 18 = f 17
def PAllPost (xs : List Vt) (w : World) (e : Ending) (w' : World) : Prop := ∃ (v : Value) (zs : List Vt), e = .returned v ∧ w'.ownsRow w.heap.size 36 42 v zs.length (zs.flatMap Vt.C) ∧ (∀ x, x ∈ zs ↔ x ∈ xs) ∧ zs.length = xs.length ∧ SortL zs ∧ Ex w w'
section
variable {w5 : World} {zs : List Vt} {x : Vt} {k : Nat} {l : Array Bool} {f : Nat → Value} {w w' : World} {v : Value}
theorem S8.plain (h : S8 w5 zs x k l f w) (i : Nat) (hi : i ≠ 0 ∧ i ≠ 4 ∧ i ≠ 12 ∧ i ≠ 13 ∧ i ≠ 17 ∧ i ≠ 18) : S8 w5 zs x k (l.setIfInBounds i true) (upd f i v) w := by
 refine ⟨h.ex, ?_, ?_, ?_, ?_, ?_, ?_⟩
 ·rw [gset hi.1 false, gset hi.2.1 false, upd_ne _ _ (Ne.symm hi.1)]; exact h.e0
 ·rw [gset hi.2.1 false, gset hi.2.2.2.1 false, upd_ne _ _ (Ne.symm hi.2.1)]; exact h.e4
 ·rw [gset hi.2.2.1 false, gset hi.2.2.2.1 false, upd_ne _ _ (Ne.symm hi.2.2.1)]; exact h.e12
 ·rw [gset hi.2.2.2.1 false, gset hi.2.2.2.2.1 false, upd_ne _ _ (Ne.symm hi.2.2.2.1)]; exact h.e13
 ·rw [gset hi.2.2.2.2.1 false, upd_ne _ _ (Ne.symm hi.2.2.2.2.1)]; exact h.e17
 rw [gset hi.2.2.2.2.2 false, upd_ne _ _ (Ne.symm hi.2.2.2.2.2), upd_ne _ _ (Ne.symm hi.2.2.2.2.1)]; exact h.e18
theorem S8.grow (h : S8 w5 zs x k l f w) (kx : Ex w w') : S8 w5 zs x k l f w' :=
 ⟨Ex.trans h.ex kx, fun a b => by obtain ⟨g, h1, h2, h3⟩ := h.e0 a b; exact ⟨g, h1, h2, h3.ext kx⟩, fun a b => kx.row (h.e4 a b), fun a b => by obtain ⟨g, h1, h2, h3⟩ := h.e12 a b; exact ⟨g, h1, h2.ext kx, h3⟩, fun a b => kx.row (h.e13 a b), fun a => kx.row (h.e17 a), h.e18⟩
theorem S8.s0 (h : S8 w5 zs x k l f w) (h4 : l.getD 4 false = false) : S8 w5 zs x k (l.setIfInBounds 0 true) (upd f 0 (.slice (some ⟨w.heap.size, 0, none⟩) 0 0)) (w.alloc (.cells #[] 36)) := by
 have h2 := h.grow (Ex.alloc w (.cells #[] 36))
 refine ⟨h2.ex, ?_, ?_, ?_, ?_, ?_, ?_⟩
 ·rw [upd_same]; exact fun _ _ => ⟨_, rfl, Below.size h.ex, Bk.new rfl _ _⟩
 ·rw [gset (by decide) false, h4]; intro e; cases e
 ·rw [gset (by decide) false, gset (by decide) false, upd_ne _ _ (by decide)]; exact h2.e12
 ·rw [gset (by decide) false, gset (by decide) false, upd_ne _ _ (by decide)]; exact h2.e13
 ·rw [gset (by decide) false, upd_ne _ _ (by decide)]; exact h2.e17
 rw [gset (by decide) false, upd_ne _ _ (by decide), upd_ne _ _ (by decide)]; exact h2.e18
theorem S8.s4 (h : S8 w5 zs x k l f w) (hl : 4 < l.size) (kx : Ex w w') (hr : w'.ownsRow w5.heap.size 36 42 v k ((zs.take k).flatMap Vt.C)) : S8 w5 zs x k (l.setIfInBounds 4 true) (upd f 4 v) w' := by
 have h2 := h.grow kx
 refine ⟨h2.ex, ?_, ?_, ?_, ?_, ?_, ?_⟩
 ·rw [set_new hl]; intro _ e; cases e
 ·rw [upd_same]; exact fun _ _ => hr
 ·rw [gset (by decide) false, gset (by decide) false, upd_ne _ _ (by decide)]; exact h2.e12
 ·rw [gset (by decide) false, gset (by decide) false, upd_ne _ _ (by decide)]; exact h2.e13
 ·rw [gset (by decide) false, upd_ne _ _ (by decide)]; exact h2.e17
 rw [gset (by decide) false, upd_ne _ _ (by decide), upd_ne _ _ (by decide)]; exact h2.e18
theorem S8.s12 (h : S8 w5 zs x k l f w) (h13 : l.getD 13 false = false) : S8 w5 zs x k (l.setIfInBounds 12 true) (upd f 12 (.slice (some ⟨w.heap.size, 0, none⟩) 1 1)) (w.alloc (.cells x.C.toArray 36)) := by
 have h2 := h.grow (Ex.alloc w (.cells x.C.toArray 36))
 refine ⟨h2.ex, ?_, ?_, ?_, ?_, ?_, ?_⟩
 ·rw [gset (by decide) false, gset (by decide) false, upd_ne _ _ (by decide)]; exact h2.e0
 ·rw [gset (by decide) false, gset (by decide) false, upd_ne _ _ (by decide)]; exact h2.e4
 ·rw [upd_same]; exact fun _ _ => ⟨_, rfl, Bk.new rfl _ _, Below.size h.ex⟩
 ·rw [gset (by decide) false, h13]; intro e; cases e
 ·rw [gset (by decide) false, upd_ne _ _ (by decide)]; exact h2.e17
 rw [gset (by decide) false, upd_ne _ _ (by decide), upd_ne _ _ (by decide)]; exact h2.e18
theorem S8.s13 (h : S8 w5 zs x k l f w) (hl : 13 < l.size) (h4 : l.getD 4 false = true) (h17 : l.getD 17 false = false) (kx : Ex w5 w') (hr : w'.ownsRow w5.heap.size 36 42 v (k + 1) ((zs.take k ++ [x]).flatMap Vt.C)) : S8 w5 zs x k (l.setIfInBounds 13 true) (upd f 13 v) w' := by
 refine ⟨kx, ?_, ?_, ?_, ?_, ?_, ?_⟩
 ·rw [gset (show (13 : Nat) ≠ 4 by decide) false, h4]; intro _ e; cases e
 ·rw [set_new hl]; intro _ e; cases e
 ·rw [set_new hl]; intro _ e; cases e
 ·rw [upd_same]; exact fun _ _ => hr
 ·rw [gset (by decide) false, h17]; intro e; cases e
 rw [gset (by decide) false, upd_ne _ _ (by decide), upd_ne _ _ (by decide)]; exact h.e18
theorem S8.s17 (h : S8 w5 zs x k l f w) (hl : 17 < l.size) (h18 : l.getD 18 false = false) (h4 : l.getD 4 false = true) (h13 : l.getD 13 false = true) (kx : Ex w5 w') (hr : w'.ownsRow w5.heap.size 36 42 v (zs.length + 1) ((zs.take k ++ x :: zs.drop k).flatMap Vt.C)) : S8 w5 zs x k (l.setIfInBounds 17 true) (upd f 17 v) w' := by
 refine ⟨kx, ?_, ?_, ?_, ?_, ?_, ?_⟩
 ·rw [gset (show (17 : Nat) ≠ 4 by decide) false, h4]; intro _ e; cases e
 ·rw [gset (show (17 : Nat) ≠ 13 by decide) false, h13]; intro _ e; cases e
 ·rw [gset (show (17 : Nat) ≠ 13 by decide) false, h13]; intro _ e; cases e
 ·rw [set_new hl]; intro _ e; cases e
 ·rw [upd_same]; exact fun _ => hr
 rw [gset (by decide) false, h18]; intro e; cases e
theorem S8.s18 (h : S8 w5 zs x k l f w) (h17 : l.getD 17 false = true) (hv : v = f 17) : S8 w5 zs x k (l.setIfInBounds 18 true) (upd f 18 v) w := by
 refine ⟨h.ex, ?_, ?_, ?_, ?_, ?_, ?_⟩
 ·rw [gset (by decide) false, gset (by decide) false, upd_ne _ _ (by decide)]; exact h.e0
 ·rw [gset (by decide) false, gset (by decide) false, upd_ne _ _ (by decide)]; exact h.e4
 ·rw [gset (by decide) false, gset (by decide) false, upd_ne _ _ (by decide)]; exact h.e12
 ·rw [gset (by decide) false, gset (by decide) false, upd_ne _ _ (by decide)]; exact h.e13
 ·rw [gset (by decide) false, upd_ne _ _ (by decide)]; exact h.e17
 rw [upd_same, upd_ne _ _ (by decide)]; exact fun _ => hv
end
set_option maxHeartbeats 8000000 in
set_option maxRecDepth 100000 in
theorem pall_any (w0 : World) (P : Nat) (rv : Value) (xs : List Vt) (w : World) (h : PB w0 w P rv xs) (hd : ∀ (i j : Nat) (x y : Vt), i < j → xs[i]? = some x → xs[j]? = some y → x.id ≠ y.id) (hl : xs.length ≤ 1000) : Calls Try.prog 76 #[.pointer (some ⟨P, 0, none⟩)] w (PAllPost xs w) := by
 have HP := Lib.hid h
 have HD := Lib.hid hd
 have HL := Lib.hid hl
 have HOK : Hid (∀ x ∈ xs, x.Ok) := Lib.hid (fun x hx => by
  obtain ⟨i, hi, e⟩ := List.getElem_of_mem hx
  exact (h.ins i x (by rw [List.getElem?_eq_getElem hi, e])).ok)
 obtain ⟨ad, cap, rfl, hin, hcap⟩ := h.inn
 have HIN := Lib.hid hin
 obtain ⟨n, hn⟩ : ∃ n, n = xs.length := ⟨_, rfl⟩
 have HN := Lib.hid hn
 clear h hd hl hin hcap hn
 go_enter Try.func76, Try.ntmps76
 go_wp2_with fail
 go_loopw [3, 4] (fun t3 t4 wr => ∃ (i : Nat) (zs : List Vt), i ≤ n ∧ t4 = .int .i64 i ∧ Hid (wr.ownsRow w.heap.size 36 42 t3 zs.length (zs.flatMap Vt.C)) ∧ Hid (∀ x, x ∈ zs ↔ x ∈ xs.take i) ∧ zs.length = i ∧ Hid (SortL zs) ∧ Hid (Ex w wr)) (fun _ t4 _ => n - (intOf t4).toNat)
 case atStart => exact ⟨0, [], by omega, rfl, Lib.hid (World.ownsRow_nil _ _ _ _), Lib.hid (fun x => by simp), rfl, Lib.hid (fun i j x y _ hx => by simp at hx), Lib.hid (Ex.refl _)⟩
 case round =>
  skip
  obtain ⟨i, zs, hi, rfl, HRW, HM, hzl, HS, BW⟩ := hrel
  have HZL := Lib.hid hzl
  have HKB : Hid (zs.length ≤ 1000) := Lib.hid (by have := HL.out; have := HN.out; omega)
  clear hzl
  obtain ⟨ad3, cap3, e3, hnil3, hcap3, hcm3, hrd3⟩ := own_rd HRW.out
  subst e3
  have R3 := Lib.hid (And.intro hnil3 (And.intro hcap3 (And.intro hcm3 hrd3)))
  clear hnil3 hcap3 hcm3 hrd3
  have PBX := Lib.hid (HP.out.ext BW.out)
  have c0 : wr.cell? ⟨P, 0, none⟩ = some (.slice ad n cap) := by rw [PBX.out.blk.cell]; simp [HN.out]
  by_cases hlt : i < n
  ·have HLT := Lib.hid hlt
   have q0 : (0 : Int) ≤ (i : Int) := by omega
   have q1 : (i : Int) < (n : Int) := by omega
   obtain ⟨ab, ofs, rfl, hab, hra⟩ := (HIN.out.ext BW.out).read (by rw [← HN.out]; omega)
   obtain ⟨x, hx⟩ : ∃ x, xs[i]? = some x := ⟨_, List.getElem?_eq_getElem (by rw [← HN.out]; exact hlt)⟩
   have XOK := Lib.hid (HIN.out.ok i x hx)
   have XR : Hid (wr.rangeAt ab (ofs + i * 42) x.C) := Lib.hid (hra i x hx)
   have HX := Lib.hid hx
   have HAB := Lib.hid hab
   have HZOK : Hid (∀ y ∈ zs, y.Ok) := Lib.hid (fun y hy => HOK.out y (List.mem_of_mem_take ((HM.out y).1 hy)))
   have HNE : Hid (∀ y ∈ zs, y.id ≠ x.id) := Lib.hid (fun y hy => by
    have h1 := (HM.out y).1 hy
    obtain ⟨j, hj, e⟩ := List.getElem_of_mem h1
    have hj2 : j < i := by rw [List.length_take] at hj; omega
    refine HD.out j i y x hj2 ?_ HX.out
    rw [← e, List.getElem_take]; exact List.getElem?_eq_getElem (by have := HN.out; omega))
   clear hra hab hx
   go_wp2_with fail
   clear c0
   obtain ⟨w5, rfl⟩ : ∃ x, x = wr := ⟨_, rfl⟩
   go_loopw [5] (fun t5 wr => ∃ k : Nat, k ≤ zs.length ∧ t5 = .int .i64 k ∧ Hid (∀ (j : Nat) (y : Vt), k ≤ j → zs[j]? = some y → keyL x.id < keyL y.id) ∧ Hid (Ex w5 wr)) (fun t5 _ => (intOf t5).toNat)
   case atStart => exact ⟨zs.length, Nat.le_refl _, rfl, Lib.hid (fun j y hj hy => by have := (List.getElem?_eq_some_iff.1 hy).1; omega), Lib.hid (Ex.refl _)⟩
   case round =>
    skip
    obtain ⟨k, hk, rfl, HHI, BX⟩ := hrel
    have hkb : k ≤ 1000 := Nat.le_trans hk HKB.out
    have HKZ := Lib.hid hk
    by_cases hk0 : k = 0
    ·go_wp2_with fail
     have hS0 : ∀ (listed : Array Bool) (f : Nat → Value), (∀ i, listed.getD i false = false) → Ex wr wr.drew := fun _ _ _ => (Below.refl wr.heap.size wr).drew
     obtain ⟨T, hT⟩ : ∃ T : List (Value → Prop), T = [(fun zz => zz = .int .i64 k), (fun zz => zz = .bool false), (fun zz => zz = .bool false), (fun zz => zz = undef), (fun zz => zz = undef), (fun zz => zz = undef), (fun zz => zz = undef), (fun zz => zz = undef), (fun zz => zz = undef), (fun zz => zz = undef), (fun zz => zz = undef), (fun zz => zz = undef), (fun zz => zz = undef), (fun zz => zz = undef), (fun zz => zz = undef), (fun zz => zz = undef), (fun zz => zz = undef), (fun zz => zz = undef), (fun zz => zz = .bool false)] := ⟨_, rfl⟩
     refine wp_region_gen (JS T ([] : List (Nat × Nat)) (fun _ _ wq => Ex wr wq)) (by kernel_rfl) (by kernel_rfl) (by kernel_rfl) (fitB_spec (by kernel_rfl)) (fun listed f h => JS.start listed f h (hS0 listed f h)) ?_ ?_
     ·intro i o ho
      have hi : i < 19 := (Array.getElem?_eq_some_iff.1 ho).1
      have hi' : i = 0 ∨ i = 1 ∨ i = 2 ∨ i = 3 ∨ i = 4 ∨ i = 5 ∨ i = 6 ∨ i = 7 ∨ i = 8 ∨ i = 9 ∨ i = 10 ∨ i = 11 ∨ i = 12 ∨ i = 13 ∨ i = 14 ∨ i = 15 ∨ i = 16 ∨ i = 17 ∨ i = 18 := by omega
      clear hi
      rcases hi' with rfl | rfl | rfl | rfl | rfl | rfl | rfl | rfl | rfl | rfl | rfl | rfl | rfl | rfl | rfl | rfl | rfl | rfl | rfl
      all_goals (simp only [List.getElem?_toArray, List.getElem?_cons_zero, List.getElem?_cons_succ, Option.some.injEq] at ho; subst ho; intro listed f a w7 hJ hsz hls hun hdep hout hlat; first | (rw [if_pos (by rfl)]; intro K hK) | skip)
      ·have q5 := hout 5 (outB_spec (by kernel_rfl))
       refine wp_mv _ rfl (hK _ _ ?_)
       rw [show a.eval (.tmp 5) = .int .i64 k from q5]
       exact hJ.next (by rw [hls]; decide) (by rw [hT]; rfl) hJ.st (no_head (by decide))
      ·have q17 := hJ.iq hT (hdep ⟨0, .data⟩ (by simp) rfl) rfl _ rfl _ rfl
       clear hsz hdep hout hlat
       go_simp
       exact hK _ _ (hJ.next (by rw [hls]; decide) (by rw [hT]; first | exact congrArg Value.bool (decide_eq_true (by omega)) | exact congrArg Value.bool (decide_eq_false (by omega)) | rfl) hJ.st (no_head (by decide)))
      ·have q18 := hJ.is hT (hdep ⟨1, .data⟩ (by simp) rfl) rfl _ rfl _ rfl
       refine wp_mv _ rfl (hK _ _ ?_)
       rw [show a.eval (.tmp 18) = .bool false from q18]
       exact hJ.next (by rw [hls]; decide) (by rw [hT]; rfl) hJ.st (no_head (by decide))
      ·have ddg := hdep ⟨2, .guard⟩ (by simp) rfl
       have kg := ddg.2 _ rfl _ rfl
       have hg := hJ.vals 2 ddg.1
       rw [hT] at hg
       rw [show f 2 = .bool false from hg] at kg
       clear hg ddg
       rw [if_neg (not_wanted rfl rfl rfl kg (by decide))]
       exact hJ.next (by rw [hls]; decide) (by rw [hT]; first | exact trivial | rfl) hJ.st (no_head (by decide))
      ·have ddg := hdep ⟨2, .guard⟩ (by simp) rfl
       have kg := ddg.2 _ rfl _ rfl
       have hg := hJ.vals 2 ddg.1
       rw [hT] at hg
       rw [show f 2 = .bool false from hg] at kg
       clear hg ddg
       rw [if_neg (not_wanted rfl rfl rfl kg (by decide))]
       exact hJ.next (by rw [hls]; decide) (by rw [hT]; first | exact trivial | rfl) hJ.st (no_head (by decide))
      ·have ddg := hdep ⟨2, .guard⟩ (by simp) rfl
       have kg := ddg.2 _ rfl _ rfl
       have hg := hJ.vals 2 ddg.1
       rw [hT] at hg
       rw [show f 2 = .bool false from hg] at kg
       clear hg ddg
       rw [if_neg (not_wanted rfl rfl rfl kg (by decide))]
       exact hJ.next (by rw [hls]; decide) (by rw [hT]; first | exact trivial | rfl) hJ.st (no_head (by decide))
      ·have ddg := hdep ⟨2, .guard⟩ (by simp) rfl
       have kg := ddg.2 _ rfl _ rfl
       have hg := hJ.vals 2 ddg.1
       rw [hT] at hg
       rw [show f 2 = .bool false from hg] at kg
       clear hg ddg
       rw [if_neg (not_wanted rfl rfl rfl kg (by decide))]
       exact hJ.next (by rw [hls]; decide) (by rw [hT]; first | exact trivial | rfl) hJ.st (no_head (by decide))
      ·have ddg := hdep ⟨2, .guard⟩ (by simp) rfl
       have kg := ddg.2 _ rfl _ rfl
       have hg := hJ.vals 2 ddg.1
       rw [hT] at hg
       rw [show f 2 = .bool false from hg] at kg
       clear hg ddg
       rw [if_neg (not_wanted rfl rfl rfl kg (by decide))]
       exact hJ.next (by rw [hls]; decide) (by rw [hT]; first | exact trivial | rfl) hJ.st (no_head (by decide))
      ·have ddg := hdep ⟨2, .guard⟩ (by simp) rfl
       have kg := ddg.2 _ rfl _ rfl
       have hg := hJ.vals 2 ddg.1
       rw [hT] at hg
       rw [show f 2 = .bool false from hg] at kg
       clear hg ddg
       rw [if_neg (not_wanted rfl rfl rfl kg (by decide))]
       exact hJ.next (by rw [hls]; decide) (by rw [hT]; first | exact trivial | rfl) hJ.st (no_head (by decide))
      ·have ddg := hdep ⟨2, .guard⟩ (by simp) rfl
       have kg := ddg.2 _ rfl _ rfl
       have hg := hJ.vals 2 ddg.1
       rw [hT] at hg
       rw [show f 2 = .bool false from hg] at kg
       clear hg ddg
       rw [if_neg (not_wanted rfl rfl rfl kg (by decide))]
       exact hJ.next (by rw [hls]; decide) (by rw [hT]; first | exact trivial | rfl) hJ.st (no_head (by decide))
      ·have ddg := hdep ⟨2, .guard⟩ (by simp) rfl
       have kg := ddg.2 _ rfl _ rfl
       have hg := hJ.vals 2 ddg.1
       rw [hT] at hg
       rw [show f 2 = .bool false from hg] at kg
       clear hg ddg
       rw [if_neg (not_wanted rfl rfl rfl kg (by decide))]
       exact hJ.next (by rw [hls]; decide) (by rw [hT]; first | exact trivial | rfl) hJ.st (no_head (by decide))
      ·have ddg := hdep ⟨2, .guard⟩ (by simp) rfl
       have kg := ddg.2 _ rfl _ rfl
       have hg := hJ.vals 2 ddg.1
       rw [hT] at hg
       rw [show f 2 = .bool false from hg] at kg
       clear hg ddg
       rw [if_neg (not_wanted rfl rfl rfl kg (by decide))]
       exact hJ.next (by rw [hls]; decide) (by rw [hT]; first | exact trivial | rfl) hJ.st (no_head (by decide))
      ·have ddg := hdep ⟨2, .guard⟩ (by simp) rfl
       have kg := ddg.2 _ rfl _ rfl
       have hg := hJ.vals 2 ddg.1
       rw [hT] at hg
       rw [show f 2 = .bool false from hg] at kg
       clear hg ddg
       rw [if_neg (not_wanted rfl rfl rfl kg (by decide))]
       exact hJ.next (by rw [hls]; decide) (by rw [hT]; first | exact trivial | rfl) hJ.st (no_head (by decide))
      ·have ddg := hdep ⟨2, .guard⟩ (by simp) rfl
       have kg := ddg.2 _ rfl _ rfl
       have hg := hJ.vals 2 ddg.1
       rw [hT] at hg
       rw [show f 2 = .bool false from hg] at kg
       clear hg ddg
       rw [if_neg (not_wanted rfl rfl rfl kg (by decide))]
       exact hJ.next (by rw [hls]; decide) (by rw [hT]; first | exact trivial | rfl) hJ.st (no_head (by decide))
      ·have ddg := hdep ⟨2, .guard⟩ (by simp) rfl
       have kg := ddg.2 _ rfl _ rfl
       have hg := hJ.vals 2 ddg.1
       rw [hT] at hg
       rw [show f 2 = .bool false from hg] at kg
       clear hg ddg
       rw [if_neg (not_wanted rfl rfl rfl kg (by decide))]
       exact hJ.next (by rw [hls]; decide) (by rw [hT]; first | exact trivial | rfl) hJ.st (no_head (by decide))
      ·have ddg := hdep ⟨2, .guard⟩ (by simp) rfl
       have kg := ddg.2 _ rfl _ rfl
       have hg := hJ.vals 2 ddg.1
       rw [hT] at hg
       rw [show f 2 = .bool false from hg] at kg
       clear hg ddg
       rw [if_neg (not_wanted rfl rfl rfl kg (by decide))]
       exact hJ.next (by rw [hls]; decide) (by rw [hT]; first | exact trivial | rfl) hJ.st (no_head (by decide))
      ·have ddg := hdep ⟨2, .guard⟩ (by simp) rfl
       have kg := ddg.2 _ rfl _ rfl
       have hg := hJ.vals 2 ddg.1
       rw [hT] at hg
       rw [show f 2 = .bool false from hg] at kg
       clear hg ddg
       rw [if_neg (not_wanted rfl rfl rfl kg (by decide))]
       exact hJ.next (by rw [hls]; decide) (by rw [hT]; first | exact trivial | rfl) hJ.st (no_head (by decide))
      ·have ddg := hdep ⟨2, .guard⟩ (by simp) rfl
       have kg := ddg.2 _ rfl _ rfl
       have hg := hJ.vals 2 ddg.1
       rw [hT] at hg
       rw [show f 2 = .bool false from hg] at kg
       clear hg ddg
       rw [if_neg (not_wanted rfl rfl rfl kg (by decide))]
       exact hJ.next (by rw [hls]; decide) (by rw [hT]; first | exact trivial | rfl) hJ.st (no_head (by decide))
      have q19 := hJ.iq hT (hdep ⟨2, .data⟩ (by simp) rfl) rfl _ rfl _ rfl
      have q34 := hJ.iq hT (hdep ⟨17, .data⟩ (by simp) rfl) rfl _ rfl _ rfl
      clear hsz hdep hout hlat
      go_simp
      exact hK _ _ (hJ.next (by rw [hls]; decide) (by rw [hT]; first | rfl | exact int_eq (by omega) | exact int_eq (by rw [IntKind.wrap_i64]; omega) | exact congrArg Value.bool (decide_eq_false (by omega)) | exact congrArg Value.bool (decide_eq_true (by omega)) | exact congrArg (Value.int .u64) (by omega)) hJ.st (no_head (by decide)))
     intro listed f w7 hall hJ
     have f18 : f 18 = .bool false := by
      have h := hJ.vals 18 (hall 18 (by simp))
      rw [hT] at h; exact h
     have hst := hJ.st
     simp only [putAll, Act.put, List.setIfInBounds_toArray, List.set_cons_zero, List.set_cons_succ, Nat.zero_add, Nat.reduceAdd]
     have xx : Ex wr w7 := hst
     replace BX := Lib.hid (Ex.trans BX.out xx)
     clear xx hst hS0
     rw [f18]
     clear f18
     clear hJ hall hT
     have HLO : Hid (∀ (j : Nat) (y : Vt), j < k → zs[j]? = some y → keyL y.id < keyL x.id) := Lib.hid (fun j y hj => by omega)
     go_wp2_with fail
     obtain ⟨ad4, e4, n4, rd4⟩ := (R3.out.2.2.2.ext BX.out).take R3.out.1 R3.out.2.1 k hk
     obtain ⟨ad5, e5, n5, rd5⟩ := (R3.out.2.2.2.ext BX.out).drop R3.out.1 R3.out.2.1 k hk
     have E4 := Lib.hid e4
     have E5 := Lib.hid e5
     have RD4 := Lib.hid (And.intro n4 rd4)
     have RD5 := Lib.hid (And.intro n5 rd5)
     clear e4 e5 n4 n5 rd4 rd5
     have hS0 : ∀ (listed : Array Bool) (f : Nat → Value), (∀ i, listed.getD i false = false) → S8 w7 zs x k listed f w7.drew := fun listed f h0 => ⟨(Below.refl w7.heap.size w7).drew, (fun e => by rw [h0 0] at e; cases e), (fun e => by rw [h0 4] at e; cases e), (fun e => by rw [h0 12] at e; cases e), (fun e => by rw [h0 13] at e; cases e), (fun e => by rw [h0 17] at e; cases e), fun e => by rw [h0 18] at e; cases e⟩
     obtain ⟨T, hT⟩ : ∃ T : List (Value → Prop), T = [(fun _ => True), (fun zz => zz = .slice ad3 zs.length cap3), (fun zz => zz = .int .i64 k), (fun zz => zz = .slice ad4 k cap3), (fun _ => True), (fun zz => zz = .pointer (some ⟨P, 0, none⟩)), (fun zz => zz = .pointer (some ⟨P, 0, none⟩)), (fun zz => zz = .pointer (some ⟨P, 0, none⟩)), (fun zz => zz = .slice (some ⟨ab, ofs, none⟩) n cap), (fun zz => zz = .int .i64 i), (fun zz => zz = .pointer (some ⟨ab, ofs + i * 42, none⟩)), (fun zz => zz = x.V), (fun _ => True), (fun _ => True), (fun zz => zz = .slice ad3 zs.length cap3), (fun zz => zz = .int .i64 k), (fun zz => zz = .slice ad5 (zs.length - k) (cap3 - k)), (fun _ => True), (fun _ => True)] := ⟨_, rfl⟩
     refine wp_region_gen (JS T ([(4, 0), (13, 12), (17, 13), (13, 4), (18, 17)] : List (Nat × Nat)) (S8 w7 zs x k)) (by kernel_rfl) (by kernel_rfl) (by kernel_rfl) (fitB_spec (by kernel_rfl)) (fun listed f h => JS.start listed f h (hS0 listed f h)) ?_ ?_
     ·intro i o ho
      have hi : i < 19 := (Array.getElem?_eq_some_iff.1 ho).1
      have hi' : i = 0 ∨ i = 1 ∨ i = 2 ∨ i = 3 ∨ i = 4 ∨ i = 5 ∨ i = 6 ∨ i = 7 ∨ i = 8 ∨ i = 9 ∨ i = 10 ∨ i = 11 ∨ i = 12 ∨ i = 13 ∨ i = 14 ∨ i = 15 ∨ i = 16 ∨ i = 17 ∨ i = 18 := by omega
      clear hi
      rcases hi' with rfl | rfl | rfl | rfl | rfl | rfl | rfl | rfl | rfl | rfl | rfl | rfl | rfl | rfl | rfl | rfl | rfl | rfl | rfl
      all_goals (simp only [List.getElem?_toArray, List.getElem?_cons_zero, List.getElem?_cons_succ, Option.some.injEq] at ho; subst ho; intro listed f a w8 hJ hsz hls hun hdep hout hlat; first | (rw [if_pos (by rfl)]; intro K hK) | skip)
      ·have h4 : listed.getD 4 false = false := by
        cases hc : listed.getD 4 false with
        | false => rfl
        | true => exact absurd (hJ.ord (4, 0) (by simp) hc) (by rw [hun]; decide)
       clear hsz hdep hout hlat
       go_simp
       exact hK _ _ (hJ.next (by rw [hls]; decide) (by rw [hT]; trivial) (S8.s0 hJ.st h4) (no_head (by decide)))
      ·have q3 := hlat 3 18 _ rfl rfl ⟨⟨1, .phase⟩, by simp, rfl, rfl⟩
       rw [Array.getD_eq_getD_getElem?] at q3
       clear hsz hdep hout hlat
       go_simp
       exact hK _ _ (hJ.next (by rw [hls]; decide) (by rw [hT]; first | rfl | exact int_eq (by omega) | exact int_eq (by rw [IntKind.wrap_i64]; omega)) (S8.plain hJ.st 1 (by decide)) (no_head (by decide)))
      ·have q5 := hout 5 (outB_spec (by kernel_rfl))
       rw [Array.getD_eq_getD_getElem?] at q5
       clear hsz hdep hout hlat
       go_simp
       exact hK _ _ (hJ.next (by rw [hls]; decide) (by rw [hT]; first | rfl | exact int_eq (by omega) | exact int_eq (by rw [IntKind.wrap_i64]; omega)) (S8.plain hJ.st 2 (by decide)) (no_head (by decide)))
      ·have q39 := hJ.is hT (hdep ⟨1, .data⟩ (by simp) rfl) rfl _ rfl _ rfl
       have q40 := hJ.is hT (hdep ⟨2, .data⟩ (by simp) rfl) rfl _ rfl _ rfl
       exact wp_sl_h 37 _ _ rfl Try.slVS 42 Try.szVS ad3 zs.length cap3 k q39 q40 (by have := R3.out.2.1; omega) (by rw [E4.out]; exact hK _ _ (hJ.next (by rw [hls]; decide) (by rw [hT]; rfl) (S8.plain hJ.st 3 (by decide)) (no_head (by decide))))
      ·have dd38 := hdep ⟨0, .data⟩ (by simp) rfl
       have q38 := dd38.2 _ rfl _ rfl
       have q41 := hJ.is hT (hdep ⟨3, .data⟩ (by simp) rfl) rfl _ rfl _ rfl
       have hl0 := (hdep ⟨0, .data⟩ (by simp) rfl).1
       have hord : ∀ x ∈ ([(4, 0), (13, 12), (17, 13), (13, 4), (18, 17)] : List (Nat × Nat)), x.1 = 4 → listed.getD x.2 false = true := (by intro x hx he; simp only [List.mem_cons, List.not_mem_nil, or_false] at hx; rcases hx with rfl | rfl | rfl | rfl | rfl; all_goals first | (exact absurd he (by decide)) | assumption)
       have hl0 := (hdep ⟨0, .data⟩ (by simp) rfl).1
       have hem := S8.e0 hJ.st hl0 hun
       have hx7 := S8.ex hJ.st
       exact wp_rd0 _ _ 37 36 zeroVt.V 42 96 rfl Try.underlying37 Try.infoVt rfl (by decide) w7.heap.size _ q38 hem (Below.size hx7) ad4 k cap3 _ q41 (RD4.out.2.ext hx7) (by have := R3.out.2.1; omega) RD4.out.1 (fun u hu => vflat_one zs u (List.mem_of_mem_take hu)) (by have := HKB.out; omega) (by have := HKB.out; omega) (fun v' w' r1 x1 => hK _ _ (hJ.next (by rw [hls]; decide) (by rw [hT]; trivial) (S8.s4 hJ.st (by rw [hls]; decide) x1 (by rw [← flat_take9 HZOK.out]; exact r1)) hord))
      ·have q0 := hout 0 (outB_spec (by kernel_rfl))
       rw [Array.getD_eq_getD_getElem?] at q0
       clear hsz hdep hout hlat
       go_simp
       exact hK _ _ (hJ.next (by rw [hls]; decide) (by rw [hT]; first | rfl | exact int_eq (by omega) | exact int_eq (by rw [IntKind.wrap_i64]; omega)) (S8.plain hJ.st 5 (by decide)) (no_head (by decide)))
      ·have q43 := hJ.iq hT (hdep ⟨5, .data⟩ (by simp) rfl) rfl _ rfl _ rfl
       clear hsz hdep hout hlat
       go_simp
       exact hK _ _ (hJ.next (by rw [hls]; decide) (by rw [hT]; first | rfl | exact int_eq (by omega) | exact int_eq (by rw [IntKind.wrap_i64]; omega)) (S8.plain hJ.st 6 (by decide)) (no_head (by decide)))
      ·have q44 := hJ.iq hT (hdep ⟨6, .data⟩ (by simp) rfl) rfl _ rfl _ rfl
       clear hsz hdep hout hlat
       go_simp
       exact hK _ _ (hJ.next (by rw [hls]; decide) (by rw [hT]; first | rfl | exact int_eq (by omega) | exact int_eq (by rw [IntKind.wrap_i64]; omega)) (S8.plain hJ.st 7 (by decide)) (no_head (by decide)))
      ·have q45 := hJ.iq hT (hdep ⟨7, .data⟩ (by simp) rfl) rfl _ rfl _ rfl
       have cc : w8.cell? ⟨P, 0, none⟩ = some (.slice (some ⟨ab, ofs, none⟩) n cap) := by rw [((PBX.out.ext BX.out).ext (S8.ex hJ.st)).blk.cell]; simp [HN.out]
       clear hsz hdep hout hlat
       go_simp
       exact hK _ _ (hJ.next (by rw [hls]; decide) (by rw [hT]; rfl) (S8.plain hJ.st 8 (by decide)) (no_head (by decide)))
      ·have q4 := hout 4 (outB_spec (by kernel_rfl))
       rw [Array.getD_eq_getD_getElem?] at q4
       clear hsz hdep hout hlat
       go_simp
       exact hK _ _ (hJ.next (by rw [hls]; decide) (by rw [hT]; first | rfl | exact int_eq (by omega) | exact int_eq (by rw [IntKind.wrap_i64]; omega)) (S8.plain hJ.st 9 (by decide)) (no_head (by decide)))
      ·have q46 := hJ.iq hT (hdep ⟨8, .data⟩ (by simp) rfl) rfl _ rfl _ rfl
       have q47 := hJ.iq hT (hdep ⟨9, .data⟩ (by simp) rfl) rfl _ rfl _ rfl
       clear hsz hdep hout hlat
       go_simp
       exact hK _ _ (hJ.next (by rw [hls]; decide) (by rw [hT]; first | rfl | exact int_eq (by omega) | exact int_eq (by rw [IntKind.wrap_i64]; omega)) (S8.plain hJ.st 10 (by decide)) (no_head (by decide)))
      ·have q48 := hJ.is hT (hdep ⟨10, .data⟩ (by simp) rfl) rfl _ rfl _ rfl
       exact ld_vr _ ab (ofs + i * 42) x XOK.out rfl q48 (fun j u hu => (Below.cell (p := ⟨ab, ofs + i * 42 + j, none⟩) (Ex.trans BX.out (S8.ex hJ.st)) HAB.out).trans (XR.out j u hu)) (hK _ _ (hJ.next (by rw [hls]; decide) (by rw [hT]; rfl) (S8.plain hJ.st 11 (by decide)) (no_head (by decide))))
      ·have q49 := hJ.is hT (hdep ⟨11, .data⟩ (by simp) rfl) rfl _ rfl _ rfl
       have h13 : listed.getD 13 false = false := by
        cases hc : listed.getD 13 false with
        | false => rfl
        | true => exact absurd (hJ.ord (13, 12) (by simp) hc) (by rw [hun]; decide)
       exact wp_bsv _ x XOK.out rfl q49 (hK _ _ (hJ.next (by rw [hls]; decide) (by rw [hT]; trivial) (S8.s12 hJ.st h13) (no_head (by decide))))
      ·have dd42 := hdep ⟨4, .data⟩ (by simp) rfl
       have q42 := dd42.2 _ rfl _ rfl
       have dd50 := hdep ⟨12, .data⟩ (by simp) rfl
       have q50 := dd50.2 _ rfl _ rfl
       have hl12 := (hdep ⟨12, .data⟩ (by simp) rfl).1
       have hl4 := (hdep ⟨4, .data⟩ (by simp) rfl).1
       have hord : ∀ x ∈ ([(4, 0), (13, 12), (17, 13), (13, 4), (18, 17)] : List (Nat × Nat)), x.1 = 13 → listed.getD x.2 false = true := (by intro x hx he; simp only [List.mem_cons, List.not_mem_nil, or_false] at hx; rcases hx with rfl | rfl | rfl | rfl | rfl; all_goals first | (exact absurd he (by decide)) | assumption)
       have h17 : listed.getD 17 false = false := by
        cases hc : listed.getD 17 false with
        | false => rfl
        | true => exact absurd (hJ.ord (17, 13) (by simp) hc) (by rw [hun]; decide)
       have hl4 := (hdep ⟨4, .data⟩ (by simp) rfl).1
       have hl12 := (hdep ⟨12, .data⟩ (by simp) rfl).1
       have hr4 := S8.e4 hJ.st hl4 hun
       obtain ⟨g12, e12, hb12, _⟩ := S8.e12 hJ.st hl12 hun
       rw [e12] at q50
       obtain ⟨adx, ex, nx, rx⟩ := Many.rd (n := 1) (sz := 42) ⟨g12, rfl, hb12⟩ (Vt.len XOK.out)
       cases ex
       have hx7 := S8.ex hJ.st
       exact wp_rd _ _ 37 36 zeroVt.V 42 96 rfl Try.underlying37 Try.infoVt rfl (by decide) w7.heap.size k _ _ q42 hr4 (Below.size hx7) _ 1 1 _ q50 rx (Nat.le_refl _) (fun h => by cases h) (Vt.C_one x) (by have := HKB.out; omega) (by have := HKB.out; omega) (fun v' w' r1 r2 => hK _ _ (hJ.next (by rw [hls]; decide) (by rw [hT]; trivial) (S8.s13 hJ.st (by rw [hls]; decide) hl4 h17 (Below.trans hx7 r2.below) (by rw [List.flatMap_append]; simpa using r1)) hord))
      ·have q3 := hlat 3 18 _ rfl rfl ⟨⟨14, .phase⟩, by simp, rfl, rfl⟩
       rw [Array.getD_eq_getD_getElem?] at q3
       clear hsz hdep hout hlat
       go_simp
       exact hK _ _ (hJ.next (by rw [hls]; decide) (by rw [hT]; first | rfl | exact int_eq (by omega) | exact int_eq (by rw [IntKind.wrap_i64]; omega)) (S8.plain hJ.st 14 (by decide)) (no_head (by decide)))
      ·have q5 := hout 5 (outB_spec (by kernel_rfl))
       rw [Array.getD_eq_getD_getElem?] at q5
       clear hsz hdep hout hlat
       go_simp
       exact hK _ _ (hJ.next (by rw [hls]; decide) (by rw [hT]; first | rfl | exact int_eq (by omega) | exact int_eq (by rw [IntKind.wrap_i64]; omega)) (S8.plain hJ.st 15 (by decide)) (no_head (by decide)))
      ·have q52 := hJ.is hT (hdep ⟨14, .data⟩ (by simp) rfl) rfl _ rfl _ rfl
       have q53 := hJ.is hT (hdep ⟨15, .data⟩ (by simp) rfl) rfl _ rfl _ rfl
       exact wp_sl_l 37 _ _ rfl Try.slVS 42 Try.szVS ad3 zs.length cap3 k q52 q53 hk (by rw [E5.out]; exact hK _ _ (hJ.next (by rw [hls]; decide) (by rw [hT]; rfl) (S8.plain hJ.st 16 (by decide)) (no_head (by decide))))
      ·have dd51 := hdep ⟨13, .data⟩ (by simp) rfl
       have q51 := dd51.2 _ rfl _ rfl
       have q54 := hJ.is hT (hdep ⟨16, .data⟩ (by simp) rfl) rfl _ rfl _ rfl
       have hl13 := (hdep ⟨13, .data⟩ (by simp) rfl).1
       have hord : ∀ x ∈ ([(4, 0), (13, 12), (17, 13), (13, 4), (18, 17)] : List (Nat × Nat)), x.1 = 17 → listed.getD x.2 false = true := (by intro x hx he; simp only [List.mem_cons, List.not_mem_nil, or_false] at hx; rcases hx with rfl | rfl | rfl | rfl | rfl; all_goals first | (exact absurd he (by decide)) | assumption)
       have h18 : listed.getD 18 false = false := by
        cases hc : listed.getD 18 false with
        | false => rfl
        | true => exact absurd (hJ.ord (18, 17) (by simp) hc) (by rw [hun]; decide)
       have hl13 := (hdep ⟨13, .data⟩ (by simp) rfl).1
       have hl4 := hJ.ord (13, 4) (by simp) hl13
       have hr13 := S8.e13 hJ.st hl13 hun
       have hx7 := S8.ex hJ.st
       exact wp_rd _ _ 37 36 zeroVt.V 42 96 rfl Try.underlying37 Try.infoVt rfl (by decide) w7.heap.size (k + 1) _ _ q51 hr13 (Below.size hx7) ad5 (zs.length - k) (cap3 - k) _ q54 (RD5.out.2.ext hx7) (by have := R3.out.2.1; omega) RD5.out.1 (fun u hu => vflat_one zs u (List.mem_of_mem_drop hu)) (by have := HKB.out; omega) (by have := HKB.out; omega) (fun v' w' r1 r2 => hK _ _ (hJ.next (by rw [hls]; decide) (by rw [hT]; trivial) (S8.s17 hJ.st (by rw [hls]; decide) h18 hl4 hl13 (Below.trans hx7 r2.below) (by have e1 : k + 1 + (zs.length - k) = zs.length + 1 := (by omega); rw [e1, flat_drop9 HZOK.out, ← List.flatMap_append, List.append_assoc, List.singleton_append] at r1; exact r1)) hord))
      have dd55 := hdep ⟨17, .data⟩ (by simp) rfl
      have q55 := dd55.2 _ rfl _ rfl
      have hl17 := (hdep ⟨17, .data⟩ (by simp) rfl).1
      have hord : ∀ x ∈ ([(4, 0), (13, 12), (17, 13), (13, 4), (18, 17)] : List (Nat × Nat)), x.1 = 18 → listed.getD x.2 false = true := (by intro x hx he; simp only [List.mem_cons, List.not_mem_nil, or_false] at hx; rcases hx with rfl | rfl | rfl | rfl | rfl; all_goals first | (exact absurd he (by decide)) | assumption)
      have hl17 := (hdep ⟨17, .data⟩ (by simp) rfl).1
      rw [Array.getD_eq_getD_getElem?] at q55
      clear hsz hdep hout hlat
      go_simp
      exact hK _ _ (hJ.next (by rw [hls]; decide) (by rw [hT]; trivial) (S8.s18 hJ.st hl17 rfl) hord)
     intro listed f w8 hall hJ
     have hst := hJ.st
     simp only [putAll, Act.put, List.setIfInBounds_toArray, List.set_cons_zero, List.set_cons_succ, Nat.zero_add, Nat.reduceAdd]
     have hr17 := S8.e17 hst (hall 17 (by simp))
     have hx17 := S8.ex hst
     have e18 := S8.e18 hst (hall 18 (by simp))
     rw [e18]
     clear e18 hst
     clear hJ hall hT
     generalize f 17 = v17 at hr17 ⊢
     clear hS0
     have HRN := Lib.hid hr17
     have BN : Hid (Ex w w8) := Lib.hid (Ex.trans BW.out (Ex.trans BX.out hx17))
     have hn9 : n ≤ 1000 := by have := HL.out; have := HN.out; omega
     have hlt9 := HLT.out
     clear hr17 hx17
     go_wp2_with fail
     go_roundw
     case rel => exact ⟨i + 1, zs.take k ++ x :: zs.drop k, HLT.out, by go_num, Lib.hid (by rw [show (zs.take k ++ x :: zs.drop k).length = zs.length + 1 by rw [List.length_append, List.length_take, List.length_cons, List.length_drop]; have := HKZ.out; omega]; exact rown_less HRN.out (Below.size (Ex.trans BW.out BX.out))), Lib.hid (fun z => by rw [mem_ins, HM.out, List.take_add_one, HX.out, List.mem_append]; constructor <;> (intro h; rcases h with h | h <;> simp_all)), by rw [List.length_append, List.length_take, List.length_cons, List.length_drop]; have := HZL.out; have := HKZ.out; omega, Lib.hid (HS.out.ins HKZ.out HLO.out HHI.out), BN⟩
     case measure => simp [intOf]; omega
    obtain ⟨k1, hk1⟩ : ∃ k1, k = k1 + 1 := ⟨k - 1, by omega⟩
    obtain ⟨y, hy⟩ : ∃ y, zs[k1]? = some y := ⟨_, List.getElem?_eq_getElem (by omega)⟩
    have HY := Lib.hid hy
    have YOK := Lib.hid (HZOK.out y (List.mem_of_getElem? hy))
    obtain ⟨g3, o3, ea3, hg3, hrr⟩ := R3.out.2.2.2.read (by omega)
    subst ea3
    have HG3 := Lib.hid hg3
    have YR : Hid (w5.rangeAt g3 (o3 + k1 * 42) y.C) := Lib.hid (fun j u hu => by
     have hj : j < 42 := by have := (List.getElem?_eq_some_iff.1 hu).1; rw [Vt.len YOK.out] at this; exact this
     have h := hrr (k1 * 42 + j) u (by rw [vflat_at zs (fun i x hx => HZOK.out x (List.mem_of_getElem? hx)) k1 j y HY.out hj]; exact hu)
     rw [← Nat.add_assoc] at h; exact h)
    clear hy hg3 hrr
    have hk1z : k1 < zs.length := by omega
    have qz : (0 : Int) ≤ (k : Int) - 1 := by omega
    have qy : (k : Int) - 1 < (zs.length : Int) := by omega
    go_wp2_with fail
    have hS0 : ∀ (listed : Array Bool) (f : Nat → Value), (∀ i, listed.getD i false = false) → Ex wr wr.drew := fun _ _ _ => (Below.refl wr.heap.size wr).drew
    obtain ⟨T, hT⟩ : ∃ T : List (Value → Prop), T = [(fun zz => zz = .int .i64 k), (fun zz => zz = .bool true), (fun zz => zz = .bool true), (fun zz => zz = .slice (some ⟨g3, o3, none⟩) zs.length cap3), (fun zz => zz = .int .i64 k), (fun zz => zz = .int .i64 ((k : Int) - 1)), (fun zz => zz = .pointer (some ⟨g3, o3 + k1 * 42, none⟩)), (fun zz => zz = .pointer (some ⟨g3, o3 + k1 * 42, none⟩)), (fun zz => zz = digV y.id), (fun zz => zz = .pointer (some ⟨P, 0, none⟩)), (fun zz => zz = .pointer (some ⟨P, 0, none⟩)), (fun zz => zz = .pointer (some ⟨P, 0, none⟩)), (fun zz => zz = .slice (some ⟨ab, ofs, none⟩) n cap), (fun zz => zz = .int .i64 i), (fun zz => zz = .pointer (some ⟨ab, ofs + i * 42, none⟩)), (fun zz => zz = .pointer (some ⟨ab, ofs + i * 42, none⟩)), (fun zz => zz = digV x.id), (fun zz => zz = .bool (lat y.id x.id)), (fun zz => zz = .bool (lat y.id x.id))] := ⟨_, rfl⟩
    refine wp_region_gen (JS T ([] : List (Nat × Nat)) (fun _ _ wq => Ex wr wq)) (by kernel_rfl) (by kernel_rfl) (by kernel_rfl) (fitB_spec (by kernel_rfl)) (fun listed f h => JS.start listed f h (hS0 listed f h)) ?_ ?_
    ·intro i o ho
     have hi : i < 19 := (Array.getElem?_eq_some_iff.1 ho).1
     have hi' : i = 0 ∨ i = 1 ∨ i = 2 ∨ i = 3 ∨ i = 4 ∨ i = 5 ∨ i = 6 ∨ i = 7 ∨ i = 8 ∨ i = 9 ∨ i = 10 ∨ i = 11 ∨ i = 12 ∨ i = 13 ∨ i = 14 ∨ i = 15 ∨ i = 16 ∨ i = 17 ∨ i = 18 := by omega
     clear hi
     rcases hi' with rfl | rfl | rfl | rfl | rfl | rfl | rfl | rfl | rfl | rfl | rfl | rfl | rfl | rfl | rfl | rfl | rfl | rfl | rfl
     all_goals (simp only [List.getElem?_toArray, List.getElem?_cons_zero, List.getElem?_cons_succ, Option.some.injEq] at ho; subst ho; intro listed f a w7 hJ hsz hls hun hdep hout hlat; first | (rw [if_pos (by rfl)]; intro K hK) | skip)
     ·have q5 := hout 5 (outB_spec (by kernel_rfl))
      refine wp_mv _ rfl (hK _ _ ?_)
      rw [show a.eval (.tmp 5) = .int .i64 k from q5]
      exact hJ.next (by rw [hls]; decide) (by rw [hT]; rfl) hJ.st (no_head (by decide))
     ·have q17 := hJ.iq hT (hdep ⟨0, .data⟩ (by simp) rfl) rfl _ rfl _ rfl
      clear hsz hdep hout hlat
      go_simp
      exact hK _ _ (hJ.next (by rw [hls]; decide) (by rw [hT]; first | exact congrArg Value.bool (decide_eq_true (by omega)) | exact congrArg Value.bool (decide_eq_false (by omega)) | rfl) hJ.st (no_head (by decide)))
     ·have q18 := hJ.is hT (hdep ⟨1, .data⟩ (by simp) rfl) rfl _ rfl _ rfl
      refine wp_mv _ rfl (hK _ _ ?_)
      rw [show a.eval (.tmp 18) = .bool true from q18]
      exact hJ.next (by rw [hls]; decide) (by rw [hT]; rfl) hJ.st (no_head (by decide))
     ·have ddg := hdep ⟨2, .guard⟩ (by simp) rfl
      have kg := ddg.2 _ rfl _ rfl
      have hg := hJ.vals 2 ddg.1
      rw [hT] at hg
      rw [show f 2 = .bool true from hg] at kg
      clear hg ddg
      rw [if_pos (wanted_of rfl rfl rfl kg)]
      clear kg
      intro K hK
      have q3 := hout 3 (outB_spec (by kernel_rfl))
      refine wp_mv _ rfl (hK _ _ ?_)
      rw [show a.eval (.tmp 3) = .slice (some ⟨g3, o3, none⟩) zs.length cap3 from q3]
      exact hJ.next (by rw [hls]; decide) (by rw [hT]; rfl) hJ.st (no_head (by decide))
     ·have ddg := hdep ⟨2, .guard⟩ (by simp) rfl
      have kg := ddg.2 _ rfl _ rfl
      have hg := hJ.vals 2 ddg.1
      rw [hT] at hg
      rw [show f 2 = .bool true from hg] at kg
      clear hg ddg
      rw [if_pos (wanted_of rfl rfl rfl kg)]
      clear kg
      intro K hK
      have q5 := hout 5 (outB_spec (by kernel_rfl))
      refine wp_mv _ rfl (hK _ _ ?_)
      rw [show a.eval (.tmp 5) = .int .i64 k from q5]
      exact hJ.next (by rw [hls]; decide) (by rw [hT]; rfl) hJ.st (no_head (by decide))
     ·have ddg := hdep ⟨2, .guard⟩ (by simp) rfl
      have kg := ddg.2 _ rfl _ rfl
      have hg := hJ.vals 2 ddg.1
      rw [hT] at hg
      rw [show f 2 = .bool true from hg] at kg
      clear hg ddg
      rw [if_pos (wanted_of rfl rfl rfl kg)]
      clear kg
      intro K hK
      have q21 := hJ.iq hT (hdep ⟨4, .data⟩ (by simp) rfl) rfl _ rfl _ rfl
      clear hsz hdep hout hlat
      go_simp
      exact hK _ _ (hJ.next (by rw [hls]; decide) (by rw [hT]; first | rfl | exact congrArg (Value.int .i64) (by rw [IntKind.wrap_i64]; omega) | exact congrArg (Value.int .i64) (by omega)) hJ.st (no_head (by decide)))
     ·have ddg := hdep ⟨2, .guard⟩ (by simp) rfl
      have kg := ddg.2 _ rfl _ rfl
      have hg := hJ.vals 2 ddg.1
      rw [hT] at hg
      rw [show f 2 = .bool true from hg] at kg
      clear hg ddg
      rw [if_pos (wanted_of rfl rfl rfl kg)]
      clear kg
      intro K hK
      have q20 := hJ.iq hT (hdep ⟨3, .data⟩ (by simp) rfl) rfl _ rfl _ rfl
      have q22 := hJ.iq hT (hdep ⟨5, .data⟩ (by simp) rfl) rfl _ rfl _ rfl
      clear hsz hdep hout hlat
      have qk : ((k : Int) - 1).toNat = k1 := by omega
      go_simp
      exact hK _ _ (hJ.next (by rw [hls]; decide) (by rw [hT]; first | rfl | (simp [qk]; done) | (simp; done)) hJ.st (no_head (by decide)))
     ·have ddg := hdep ⟨2, .guard⟩ (by simp) rfl
      have kg := ddg.2 _ rfl _ rfl
      have hg := hJ.vals 2 ddg.1
      rw [hT] at hg
      rw [show f 2 = .bool true from hg] at kg
      clear hg ddg
      rw [if_pos (wanted_of rfl rfl rfl kg)]
      clear kg
      intro K hK
      have q23 := hJ.iq hT (hdep ⟨6, .data⟩ (by simp) rfl) rfl _ rfl _ rfl
      clear hsz hdep hout hlat
      go_simp
      exact hK _ _ (hJ.next (by rw [hls]; decide) (by rw [hT]; first | rfl | exact int_eq (by omega) | exact int_eq (by rw [IntKind.wrap_i64]; omega) | exact congrArg Value.bool (decide_eq_false (by omega)) | exact congrArg Value.bool (decide_eq_true (by omega)) | exact congrArg (Value.int .u64) (by omega)) hJ.st (no_head (by decide)))
     ·have ddg := hdep ⟨2, .guard⟩ (by simp) rfl
      have kg := ddg.2 _ rfl _ rfl
      have hg := hJ.vals 2 ddg.1
      rw [hT] at hg
      rw [show f 2 = .bool true from hg] at kg
      clear hg ddg
      rw [if_pos (wanted_of rfl rfl rfl kg)]
      clear kg
      intro K hK
      have q24 := hJ.is hT (hdep ⟨7, .data⟩ (by simp) rfl) rfl _ rfl _ rfl
      exact ld_vid9 _ g3 (o3 + k1 * 42) y YOK.out rfl q24 (fun j u hu => (Below.cell (p := ⟨g3, o3 + k1 * 42 + j, none⟩) (Ex.trans BX.out hJ.st) HG3.out).trans (YR.out j u hu)) (hK _ _ (hJ.next (by rw [hls]; decide) (by rw [hT]; rfl) hJ.st (no_head (by decide))))
     ·have ddg := hdep ⟨2, .guard⟩ (by simp) rfl
      have kg := ddg.2 _ rfl _ rfl
      have hg := hJ.vals 2 ddg.1
      rw [hT] at hg
      rw [show f 2 = .bool true from hg] at kg
      clear hg ddg
      rw [if_pos (wanted_of rfl rfl rfl kg)]
      clear kg
      intro K hK
      have q0 := hout 0 (outB_spec (by kernel_rfl))
      refine wp_mv _ rfl (hK _ _ ?_)
      rw [show a.eval (.tmp 0) = .pointer (some ⟨P, 0, none⟩) from q0]
      exact hJ.next (by rw [hls]; decide) (by rw [hT]; rfl) hJ.st (no_head (by decide))
     ·have ddg := hdep ⟨2, .guard⟩ (by simp) rfl
      have kg := ddg.2 _ rfl _ rfl
      have hg := hJ.vals 2 ddg.1
      rw [hT] at hg
      rw [show f 2 = .bool true from hg] at kg
      clear hg ddg
      rw [if_pos (wanted_of rfl rfl rfl kg)]
      clear kg
      intro K hK
      have q26 := hJ.iq hT (hdep ⟨9, .data⟩ (by simp) rfl) rfl _ rfl _ rfl
      clear hsz hdep hout hlat
      go_simp
      exact hK _ _ (hJ.next (by rw [hls]; decide) (by rw [hT]; first | rfl | exact int_eq (by omega) | exact int_eq (by rw [IntKind.wrap_i64]; omega) | exact congrArg Value.bool (decide_eq_false (by omega)) | exact congrArg Value.bool (decide_eq_true (by omega)) | exact congrArg (Value.int .u64) (by omega)) hJ.st (no_head (by decide)))
     ·have ddg := hdep ⟨2, .guard⟩ (by simp) rfl
      have kg := ddg.2 _ rfl _ rfl
      have hg := hJ.vals 2 ddg.1
      rw [hT] at hg
      rw [show f 2 = .bool true from hg] at kg
      clear hg ddg
      rw [if_pos (wanted_of rfl rfl rfl kg)]
      clear kg
      intro K hK
      have q27 := hJ.iq hT (hdep ⟨10, .data⟩ (by simp) rfl) rfl _ rfl _ rfl
      clear hsz hdep hout hlat
      go_simp
      exact hK _ _ (hJ.next (by rw [hls]; decide) (by rw [hT]; first | rfl | exact int_eq (by omega) | exact int_eq (by rw [IntKind.wrap_i64]; omega) | exact congrArg Value.bool (decide_eq_false (by omega)) | exact congrArg Value.bool (decide_eq_true (by omega)) | exact congrArg (Value.int .u64) (by omega)) hJ.st (no_head (by decide)))
     ·have ddg := hdep ⟨2, .guard⟩ (by simp) rfl
      have kg := ddg.2 _ rfl _ rfl
      have hg := hJ.vals 2 ddg.1
      rw [hT] at hg
      rw [show f 2 = .bool true from hg] at kg
      clear hg ddg
      rw [if_pos (wanted_of rfl rfl rfl kg)]
      clear kg
      intro K hK
      have q28 := hJ.iq hT (hdep ⟨11, .data⟩ (by simp) rfl) rfl _ rfl _ rfl
      have cc : w7.cell? ⟨P, 0, none⟩ = some (.slice (some ⟨ab, ofs, none⟩) n cap) := by rw [((PBX.out.ext BX.out).ext hJ.st).blk.cell]; simp [HN.out]
      clear hsz hdep hout hlat
      go_simp
      exact hK _ _ (hJ.next (by rw [hls]; decide) (by rw [hT]; rfl) hJ.st (no_head (by decide)))
     ·have ddg := hdep ⟨2, .guard⟩ (by simp) rfl
      have kg := ddg.2 _ rfl _ rfl
      have hg := hJ.vals 2 ddg.1
      rw [hT] at hg
      rw [show f 2 = .bool true from hg] at kg
      clear hg ddg
      rw [if_pos (wanted_of rfl rfl rfl kg)]
      clear kg
      intro K hK
      have q4 := hout 4 (outB_spec (by kernel_rfl))
      refine wp_mv _ rfl (hK _ _ ?_)
      rw [show a.eval (.tmp 4) = .int .i64 i from q4]
      exact hJ.next (by rw [hls]; decide) (by rw [hT]; rfl) hJ.st (no_head (by decide))
     ·have ddg := hdep ⟨2, .guard⟩ (by simp) rfl
      have kg := ddg.2 _ rfl _ rfl
      have hg := hJ.vals 2 ddg.1
      rw [hT] at hg
      rw [show f 2 = .bool true from hg] at kg
      clear hg ddg
      rw [if_pos (wanted_of rfl rfl rfl kg)]
      clear kg
      intro K hK
      have q29 := hJ.iq hT (hdep ⟨12, .data⟩ (by simp) rfl) rfl _ rfl _ rfl
      have q30 := hJ.iq hT (hdep ⟨13, .data⟩ (by simp) rfl) rfl _ rfl _ rfl
      clear hsz hdep hout hlat
      go_simp
      exact hK _ _ (hJ.next (by rw [hls]; decide) (by rw [hT]; first | rfl | exact int_eq (by omega) | exact int_eq (by rw [IntKind.wrap_i64]; omega) | exact congrArg Value.bool (decide_eq_false (by omega)) | exact congrArg Value.bool (decide_eq_true (by omega)) | exact congrArg (Value.int .u64) (by omega)) hJ.st (no_head (by decide)))
     ·have ddg := hdep ⟨2, .guard⟩ (by simp) rfl
      have kg := ddg.2 _ rfl _ rfl
      have hg := hJ.vals 2 ddg.1
      rw [hT] at hg
      rw [show f 2 = .bool true from hg] at kg
      clear hg ddg
      rw [if_pos (wanted_of rfl rfl rfl kg)]
      clear kg
      intro K hK
      have q31 := hJ.iq hT (hdep ⟨14, .data⟩ (by simp) rfl) rfl _ rfl _ rfl
      clear hsz hdep hout hlat
      go_simp
      exact hK _ _ (hJ.next (by rw [hls]; decide) (by rw [hT]; first | rfl | exact int_eq (by omega) | exact int_eq (by rw [IntKind.wrap_i64]; omega) | exact congrArg Value.bool (decide_eq_false (by omega)) | exact congrArg Value.bool (decide_eq_true (by omega)) | exact congrArg (Value.int .u64) (by omega)) hJ.st (no_head (by decide)))
     ·have ddg := hdep ⟨2, .guard⟩ (by simp) rfl
      have kg := ddg.2 _ rfl _ rfl
      have hg := hJ.vals 2 ddg.1
      rw [hT] at hg
      rw [show f 2 = .bool true from hg] at kg
      clear hg ddg
      rw [if_pos (wanted_of rfl rfl rfl kg)]
      clear kg
      intro K hK
      have q32 := hJ.is hT (hdep ⟨15, .data⟩ (by simp) rfl) rfl _ rfl _ rfl
      exact ld_vid9 _ ab (ofs + i * 42) x XOK.out rfl q32 (fun j u hu => (Below.cell (p := ⟨ab, ofs + i * 42 + j, none⟩) (Ex.trans BX.out hJ.st) HAB.out).trans (XR.out j u hu)) (hK _ _ (hJ.next (by rw [hls]; decide) (by rw [hT]; rfl) hJ.st (no_head (by decide))))
     ·have ddg := hdep ⟨2, .guard⟩ (by simp) rfl
      have kg := ddg.2 _ rfl _ rfl
      have hg := hJ.vals 2 ddg.1
      rw [hT] at hg
      rw [show f 2 = .bool true from hg] at kg
      clear hg ddg
      rw [if_pos (wanted_of rfl rfl rfl kg)]
      clear kg
      intro K hK
      have q25 := hJ.iq hT (hdep ⟨8, .data⟩ (by simp) rfl) rfl _ rfl _ rfl
      have q33 := hJ.iq hT (hdep ⟨16, .data⟩ (by simp) rfl) rfl _ rfl _ rfl
      clear hsz hdep hout hlat
      go_simp
      refine (later_any y.id x.id YOK.out.idN XOK.out.idN w7).mono ?_
      rintro e wq ⟨rfl, xq⟩
      exact hK _ _ (hJ.next (by rw [hls]; decide) (by rw [hT]; rfl) (Ex.trans hJ.st xq) (no_head (by decide)))
     have q19 := hJ.iq hT (hdep ⟨2, .data⟩ (by simp) rfl) rfl _ rfl _ rfl
     have q34 := hJ.iq hT (hdep ⟨17, .data⟩ (by simp) rfl) rfl _ rfl _ rfl
     clear hsz hdep hout hlat
     go_simp
     exact hK _ _ (hJ.next (by rw [hls]; decide) (by rw [hT]; first | rfl | simp) hJ.st (no_head (by decide)))
    intro listed f w7 hall hJ
    have f18 : f 18 = .bool (lat y.id x.id) := by
     have h := hJ.vals 18 (hall 18 (by simp))
     rw [hT] at h; exact h
    have hst := hJ.st
    simp only [putAll, Act.put, List.setIfInBounds_toArray, List.set_cons_zero, List.set_cons_succ, Nat.zero_add, Nat.reduceAdd]
    have xx : Ex wr w7 := hst
    replace BX := Lib.hid (Ex.trans BX.out xx)
    clear xx hst hS0
    rw [f18]
    clear f18
    clear hJ hall hT
    have HLK := Lib.hid (lat_key YOK.out.idN XOK.out.idN)
    cases hlat : lat y.id x.id
    ·have HLO : Hid (∀ (j : Nat) (z : Vt), j < k → zs[j]? = some z → keyL z.id < keyL x.id) := Lib.hid (fun j z hj hz => by
      have h1 := HLK.out
      rw [hlat] at h1
      have h2 := of_decide_eq_false h1.symm
      have h3 : keyL y.id ≠ keyL x.id := fun e => HNE.out y (List.mem_of_getElem? HY.out) (key_inj YOK.out.idN XOK.out.idN e)
      rcases Nat.lt_or_ge j k1 with h4 | h4
      ·have h5 := HS.out j k1 z y h4 hz HY.out; omega
      obtain rfl : j = k1 := by omega
      rw [HY.out] at hz; cases hz; omega)
     go_wp2_with fail
     obtain ⟨ad4, e4, n4, rd4⟩ := (R3.out.2.2.2.ext BX.out).take R3.out.1 R3.out.2.1 k hk
     obtain ⟨ad5, e5, n5, rd5⟩ := (R3.out.2.2.2.ext BX.out).drop R3.out.1 R3.out.2.1 k hk
     have E4 := Lib.hid e4
     have E5 := Lib.hid e5
     have RD4 := Lib.hid (And.intro n4 rd4)
     have RD5 := Lib.hid (And.intro n5 rd5)
     clear e4 e5 n4 n5 rd4 rd5
     have hS0 : ∀ (listed : Array Bool) (f : Nat → Value), (∀ i, listed.getD i false = false) → S8 w7 zs x k listed f w7.drew := fun listed f h0 => ⟨(Below.refl w7.heap.size w7).drew, (fun e => by rw [h0 0] at e; cases e), (fun e => by rw [h0 4] at e; cases e), (fun e => by rw [h0 12] at e; cases e), (fun e => by rw [h0 13] at e; cases e), (fun e => by rw [h0 17] at e; cases e), fun e => by rw [h0 18] at e; cases e⟩
     obtain ⟨T, hT⟩ : ∃ T : List (Value → Prop), T = [(fun _ => True), (fun zz => zz = .slice (some ⟨g3, o3, none⟩) zs.length cap3), (fun zz => zz = .int .i64 k), (fun zz => zz = .slice ad4 k cap3), (fun _ => True), (fun zz => zz = .pointer (some ⟨P, 0, none⟩)), (fun zz => zz = .pointer (some ⟨P, 0, none⟩)), (fun zz => zz = .pointer (some ⟨P, 0, none⟩)), (fun zz => zz = .slice (some ⟨ab, ofs, none⟩) n cap), (fun zz => zz = .int .i64 i), (fun zz => zz = .pointer (some ⟨ab, ofs + i * 42, none⟩)), (fun zz => zz = x.V), (fun _ => True), (fun _ => True), (fun zz => zz = .slice (some ⟨g3, o3, none⟩) zs.length cap3), (fun zz => zz = .int .i64 k), (fun zz => zz = .slice ad5 (zs.length - k) (cap3 - k)), (fun _ => True), (fun _ => True)] := ⟨_, rfl⟩
     refine wp_region_gen (JS T ([(4, 0), (13, 12), (17, 13), (13, 4), (18, 17)] : List (Nat × Nat)) (S8 w7 zs x k)) (by kernel_rfl) (by kernel_rfl) (by kernel_rfl) (fitB_spec (by kernel_rfl)) (fun listed f h => JS.start listed f h (hS0 listed f h)) ?_ ?_
     ·intro i o ho
      have hi : i < 19 := (Array.getElem?_eq_some_iff.1 ho).1
      have hi' : i = 0 ∨ i = 1 ∨ i = 2 ∨ i = 3 ∨ i = 4 ∨ i = 5 ∨ i = 6 ∨ i = 7 ∨ i = 8 ∨ i = 9 ∨ i = 10 ∨ i = 11 ∨ i = 12 ∨ i = 13 ∨ i = 14 ∨ i = 15 ∨ i = 16 ∨ i = 17 ∨ i = 18 := by omega
      clear hi
      rcases hi' with rfl | rfl | rfl | rfl | rfl | rfl | rfl | rfl | rfl | rfl | rfl | rfl | rfl | rfl | rfl | rfl | rfl | rfl | rfl
      all_goals (simp only [List.getElem?_toArray, List.getElem?_cons_zero, List.getElem?_cons_succ, Option.some.injEq] at ho; subst ho; intro listed f a w8 hJ hsz hls hun hdep hout hlat; first | (rw [if_pos (by rfl)]; intro K hK) | skip)
      ·have h4 : listed.getD 4 false = false := by
        cases hc : listed.getD 4 false with
        | false => rfl
        | true => exact absurd (hJ.ord (4, 0) (by simp) hc) (by rw [hun]; decide)
       clear hsz hdep hout hlat
       go_simp
       exact hK _ _ (hJ.next (by rw [hls]; decide) (by rw [hT]; trivial) (S8.s0 hJ.st h4) (no_head (by decide)))
      ·have q3 := hlat 3 18 _ rfl rfl ⟨⟨1, .phase⟩, by simp, rfl, rfl⟩
       rw [Array.getD_eq_getD_getElem?] at q3
       clear hsz hdep hout hlat
       go_simp
       exact hK _ _ (hJ.next (by rw [hls]; decide) (by rw [hT]; first | rfl | exact int_eq (by omega) | exact int_eq (by rw [IntKind.wrap_i64]; omega)) (S8.plain hJ.st 1 (by decide)) (no_head (by decide)))
      ·have q5 := hout 5 (outB_spec (by kernel_rfl))
       rw [Array.getD_eq_getD_getElem?] at q5
       clear hsz hdep hout hlat
       go_simp
       exact hK _ _ (hJ.next (by rw [hls]; decide) (by rw [hT]; first | rfl | exact int_eq (by omega) | exact int_eq (by rw [IntKind.wrap_i64]; omega)) (S8.plain hJ.st 2 (by decide)) (no_head (by decide)))
      ·have q39 := hJ.is hT (hdep ⟨1, .data⟩ (by simp) rfl) rfl _ rfl _ rfl
       have q40 := hJ.is hT (hdep ⟨2, .data⟩ (by simp) rfl) rfl _ rfl _ rfl
       exact wp_sl_h 37 _ _ rfl Try.slVS 42 Try.szVS (some ⟨g3, o3, none⟩) zs.length cap3 k q39 q40 (by have := R3.out.2.1; omega) (by rw [E4.out]; exact hK _ _ (hJ.next (by rw [hls]; decide) (by rw [hT]; rfl) (S8.plain hJ.st 3 (by decide)) (no_head (by decide))))
      ·have dd38 := hdep ⟨0, .data⟩ (by simp) rfl
       have q38 := dd38.2 _ rfl _ rfl
       have q41 := hJ.is hT (hdep ⟨3, .data⟩ (by simp) rfl) rfl _ rfl _ rfl
       have hl0 := (hdep ⟨0, .data⟩ (by simp) rfl).1
       have hord : ∀ x ∈ ([(4, 0), (13, 12), (17, 13), (13, 4), (18, 17)] : List (Nat × Nat)), x.1 = 4 → listed.getD x.2 false = true := (by intro x hx he; simp only [List.mem_cons, List.not_mem_nil, or_false] at hx; rcases hx with rfl | rfl | rfl | rfl | rfl; all_goals first | (exact absurd he (by decide)) | assumption)
       have hl0 := (hdep ⟨0, .data⟩ (by simp) rfl).1
       have hem := S8.e0 hJ.st hl0 hun
       have hx7 := S8.ex hJ.st
       exact wp_rd0 _ _ 37 36 zeroVt.V 42 96 rfl Try.underlying37 Try.infoVt rfl (by decide) w7.heap.size _ q38 hem (Below.size hx7) ad4 k cap3 _ q41 (RD4.out.2.ext hx7) (by have := R3.out.2.1; omega) RD4.out.1 (fun u hu => vflat_one zs u (List.mem_of_mem_take hu)) (by have := HKB.out; omega) (by have := HKB.out; omega) (fun v' w' r1 x1 => hK _ _ (hJ.next (by rw [hls]; decide) (by rw [hT]; trivial) (S8.s4 hJ.st (by rw [hls]; decide) x1 (by rw [← flat_take9 HZOK.out]; exact r1)) hord))
      ·have q0 := hout 0 (outB_spec (by kernel_rfl))
       rw [Array.getD_eq_getD_getElem?] at q0
       clear hsz hdep hout hlat
       go_simp
       exact hK _ _ (hJ.next (by rw [hls]; decide) (by rw [hT]; first | rfl | exact int_eq (by omega) | exact int_eq (by rw [IntKind.wrap_i64]; omega)) (S8.plain hJ.st 5 (by decide)) (no_head (by decide)))
      ·have q43 := hJ.iq hT (hdep ⟨5, .data⟩ (by simp) rfl) rfl _ rfl _ rfl
       clear hsz hdep hout hlat
       go_simp
       exact hK _ _ (hJ.next (by rw [hls]; decide) (by rw [hT]; first | rfl | exact int_eq (by omega) | exact int_eq (by rw [IntKind.wrap_i64]; omega)) (S8.plain hJ.st 6 (by decide)) (no_head (by decide)))
      ·have q44 := hJ.iq hT (hdep ⟨6, .data⟩ (by simp) rfl) rfl _ rfl _ rfl
       clear hsz hdep hout hlat
       go_simp
       exact hK _ _ (hJ.next (by rw [hls]; decide) (by rw [hT]; first | rfl | exact int_eq (by omega) | exact int_eq (by rw [IntKind.wrap_i64]; omega)) (S8.plain hJ.st 7 (by decide)) (no_head (by decide)))
      ·have q45 := hJ.iq hT (hdep ⟨7, .data⟩ (by simp) rfl) rfl _ rfl _ rfl
       have cc : w8.cell? ⟨P, 0, none⟩ = some (.slice (some ⟨ab, ofs, none⟩) n cap) := by rw [((PBX.out.ext BX.out).ext (S8.ex hJ.st)).blk.cell]; simp [HN.out]
       clear hsz hdep hout hlat
       go_simp
       exact hK _ _ (hJ.next (by rw [hls]; decide) (by rw [hT]; rfl) (S8.plain hJ.st 8 (by decide)) (no_head (by decide)))
      ·have q4 := hout 4 (outB_spec (by kernel_rfl))
       rw [Array.getD_eq_getD_getElem?] at q4
       clear hsz hdep hout hlat
       go_simp
       exact hK _ _ (hJ.next (by rw [hls]; decide) (by rw [hT]; first | rfl | exact int_eq (by omega) | exact int_eq (by rw [IntKind.wrap_i64]; omega)) (S8.plain hJ.st 9 (by decide)) (no_head (by decide)))
      ·have q46 := hJ.iq hT (hdep ⟨8, .data⟩ (by simp) rfl) rfl _ rfl _ rfl
       have q47 := hJ.iq hT (hdep ⟨9, .data⟩ (by simp) rfl) rfl _ rfl _ rfl
       clear hsz hdep hout hlat
       go_simp
       exact hK _ _ (hJ.next (by rw [hls]; decide) (by rw [hT]; first | rfl | exact int_eq (by omega) | exact int_eq (by rw [IntKind.wrap_i64]; omega)) (S8.plain hJ.st 10 (by decide)) (no_head (by decide)))
      ·have q48 := hJ.is hT (hdep ⟨10, .data⟩ (by simp) rfl) rfl _ rfl _ rfl
       exact ld_vr _ ab (ofs + i * 42) x XOK.out rfl q48 (fun j u hu => (Below.cell (p := ⟨ab, ofs + i * 42 + j, none⟩) (Ex.trans BX.out (S8.ex hJ.st)) HAB.out).trans (XR.out j u hu)) (hK _ _ (hJ.next (by rw [hls]; decide) (by rw [hT]; rfl) (S8.plain hJ.st 11 (by decide)) (no_head (by decide))))
      ·have q49 := hJ.is hT (hdep ⟨11, .data⟩ (by simp) rfl) rfl _ rfl _ rfl
       have h13 : listed.getD 13 false = false := by
        cases hc : listed.getD 13 false with
        | false => rfl
        | true => exact absurd (hJ.ord (13, 12) (by simp) hc) (by rw [hun]; decide)
       exact wp_bsv _ x XOK.out rfl q49 (hK _ _ (hJ.next (by rw [hls]; decide) (by rw [hT]; trivial) (S8.s12 hJ.st h13) (no_head (by decide))))
      ·have dd42 := hdep ⟨4, .data⟩ (by simp) rfl
       have q42 := dd42.2 _ rfl _ rfl
       have dd50 := hdep ⟨12, .data⟩ (by simp) rfl
       have q50 := dd50.2 _ rfl _ rfl
       have hl12 := (hdep ⟨12, .data⟩ (by simp) rfl).1
       have hl4 := (hdep ⟨4, .data⟩ (by simp) rfl).1
       have hord : ∀ x ∈ ([(4, 0), (13, 12), (17, 13), (13, 4), (18, 17)] : List (Nat × Nat)), x.1 = 13 → listed.getD x.2 false = true := (by intro x hx he; simp only [List.mem_cons, List.not_mem_nil, or_false] at hx; rcases hx with rfl | rfl | rfl | rfl | rfl; all_goals first | (exact absurd he (by decide)) | assumption)
       have h17 : listed.getD 17 false = false := by
        cases hc : listed.getD 17 false with
        | false => rfl
        | true => exact absurd (hJ.ord (17, 13) (by simp) hc) (by rw [hun]; decide)
       have hl4 := (hdep ⟨4, .data⟩ (by simp) rfl).1
       have hl12 := (hdep ⟨12, .data⟩ (by simp) rfl).1
       have hr4 := S8.e4 hJ.st hl4 hun
       obtain ⟨g12, e12, hb12, _⟩ := S8.e12 hJ.st hl12 hun
       rw [e12] at q50
       obtain ⟨adx, ex, nx, rx⟩ := Many.rd (n := 1) (sz := 42) ⟨g12, rfl, hb12⟩ (Vt.len XOK.out)
       cases ex
       have hx7 := S8.ex hJ.st
       exact wp_rd _ _ 37 36 zeroVt.V 42 96 rfl Try.underlying37 Try.infoVt rfl (by decide) w7.heap.size k _ _ q42 hr4 (Below.size hx7) _ 1 1 _ q50 rx (Nat.le_refl _) (fun h => by cases h) (Vt.C_one x) (by have := HKB.out; omega) (by have := HKB.out; omega) (fun v' w' r1 r2 => hK _ _ (hJ.next (by rw [hls]; decide) (by rw [hT]; trivial) (S8.s13 hJ.st (by rw [hls]; decide) hl4 h17 (Below.trans hx7 r2.below) (by rw [List.flatMap_append]; simpa using r1)) hord))
      ·have q3 := hlat 3 18 _ rfl rfl ⟨⟨14, .phase⟩, by simp, rfl, rfl⟩
       rw [Array.getD_eq_getD_getElem?] at q3
       clear hsz hdep hout hlat
       go_simp
       exact hK _ _ (hJ.next (by rw [hls]; decide) (by rw [hT]; first | rfl | exact int_eq (by omega) | exact int_eq (by rw [IntKind.wrap_i64]; omega)) (S8.plain hJ.st 14 (by decide)) (no_head (by decide)))
      ·have q5 := hout 5 (outB_spec (by kernel_rfl))
       rw [Array.getD_eq_getD_getElem?] at q5
       clear hsz hdep hout hlat
       go_simp
       exact hK _ _ (hJ.next (by rw [hls]; decide) (by rw [hT]; first | rfl | exact int_eq (by omega) | exact int_eq (by rw [IntKind.wrap_i64]; omega)) (S8.plain hJ.st 15 (by decide)) (no_head (by decide)))
      ·have q52 := hJ.is hT (hdep ⟨14, .data⟩ (by simp) rfl) rfl _ rfl _ rfl
       have q53 := hJ.is hT (hdep ⟨15, .data⟩ (by simp) rfl) rfl _ rfl _ rfl
       exact wp_sl_l 37 _ _ rfl Try.slVS 42 Try.szVS (some ⟨g3, o3, none⟩) zs.length cap3 k q52 q53 hk (by rw [E5.out]; exact hK _ _ (hJ.next (by rw [hls]; decide) (by rw [hT]; rfl) (S8.plain hJ.st 16 (by decide)) (no_head (by decide))))
      ·have dd51 := hdep ⟨13, .data⟩ (by simp) rfl
       have q51 := dd51.2 _ rfl _ rfl
       have q54 := hJ.is hT (hdep ⟨16, .data⟩ (by simp) rfl) rfl _ rfl _ rfl
       have hl13 := (hdep ⟨13, .data⟩ (by simp) rfl).1
       have hord : ∀ x ∈ ([(4, 0), (13, 12), (17, 13), (13, 4), (18, 17)] : List (Nat × Nat)), x.1 = 17 → listed.getD x.2 false = true := (by intro x hx he; simp only [List.mem_cons, List.not_mem_nil, or_false] at hx; rcases hx with rfl | rfl | rfl | rfl | rfl; all_goals first | (exact absurd he (by decide)) | assumption)
       have h18 : listed.getD 18 false = false := by
        cases hc : listed.getD 18 false with
        | false => rfl
        | true => exact absurd (hJ.ord (18, 17) (by simp) hc) (by rw [hun]; decide)
       have hl13 := (hdep ⟨13, .data⟩ (by simp) rfl).1
       have hl4 := hJ.ord (13, 4) (by simp) hl13
       have hr13 := S8.e13 hJ.st hl13 hun
       have hx7 := S8.ex hJ.st
       exact wp_rd _ _ 37 36 zeroVt.V 42 96 rfl Try.underlying37 Try.infoVt rfl (by decide) w7.heap.size (k + 1) _ _ q51 hr13 (Below.size hx7) ad5 (zs.length - k) (cap3 - k) _ q54 (RD5.out.2.ext hx7) (by have := R3.out.2.1; omega) RD5.out.1 (fun u hu => vflat_one zs u (List.mem_of_mem_drop hu)) (by have := HKB.out; omega) (by have := HKB.out; omega) (fun v' w' r1 r2 => hK _ _ (hJ.next (by rw [hls]; decide) (by rw [hT]; trivial) (S8.s17 hJ.st (by rw [hls]; decide) h18 hl4 hl13 (Below.trans hx7 r2.below) (by have e1 : k + 1 + (zs.length - k) = zs.length + 1 := (by omega); rw [e1, flat_drop9 HZOK.out, ← List.flatMap_append, List.append_assoc, List.singleton_append] at r1; exact r1)) hord))
      have dd55 := hdep ⟨17, .data⟩ (by simp) rfl
      have q55 := dd55.2 _ rfl _ rfl
      have hl17 := (hdep ⟨17, .data⟩ (by simp) rfl).1
      have hord : ∀ x ∈ ([(4, 0), (13, 12), (17, 13), (13, 4), (18, 17)] : List (Nat × Nat)), x.1 = 18 → listed.getD x.2 false = true := (by intro x hx he; simp only [List.mem_cons, List.not_mem_nil, or_false] at hx; rcases hx with rfl | rfl | rfl | rfl | rfl; all_goals first | (exact absurd he (by decide)) | assumption)
      have hl17 := (hdep ⟨17, .data⟩ (by simp) rfl).1
      rw [Array.getD_eq_getD_getElem?] at q55
      clear hsz hdep hout hlat
      go_simp
      exact hK _ _ (hJ.next (by rw [hls]; decide) (by rw [hT]; trivial) (S8.s18 hJ.st hl17 rfl) hord)
     intro listed f w8 hall hJ
     have hst := hJ.st
     simp only [putAll, Act.put, List.setIfInBounds_toArray, List.set_cons_zero, List.set_cons_succ, Nat.zero_add, Nat.reduceAdd]
     have hr17 := S8.e17 hst (hall 17 (by simp))
     have hx17 := S8.ex hst
     have e18 := S8.e18 hst (hall 18 (by simp))
     rw [e18]
     clear e18 hst
     clear hJ hall hT
     generalize f 17 = v17 at hr17 ⊢
     clear hS0
     have HRN := Lib.hid hr17
     have BN : Hid (Ex w w8) := Lib.hid (Ex.trans BW.out (Ex.trans BX.out hx17))
     have hn9 : n ≤ 1000 := by have := HL.out; have := HN.out; omega
     have hlt9 := HLT.out
     clear hr17 hx17
     go_wp2_with fail
     go_roundw
     case rel => exact ⟨i + 1, zs.take k ++ x :: zs.drop k, HLT.out, by go_num, Lib.hid (by rw [show (zs.take k ++ x :: zs.drop k).length = zs.length + 1 by rw [List.length_append, List.length_take, List.length_cons, List.length_drop]; have := HKZ.out; omega]; exact rown_less HRN.out (Below.size (Ex.trans BW.out BX.out))), Lib.hid (fun z => by rw [mem_ins, HM.out, List.take_add_one, HX.out, List.mem_append]; constructor <;> (intro h; rcases h with h | h <;> simp_all)), by rw [List.length_append, List.length_take, List.length_cons, List.length_drop]; have := HZL.out; have := HKZ.out; omega, Lib.hid (HS.out.ins HKZ.out HLO.out HHI.out), BN⟩
     case measure => simp [intOf]; omega
    go_wp2_with fail
    go_roundw
    case rel => exact ⟨k1, by omega, by go_num, Lib.hid (fun j z hj hz => by
     have h1 := HLK.out
     rw [hlat] at h1
     have h2 := of_decide_eq_true h1.symm
     rcases Nat.eq_or_lt_of_le hj with h4 | h4
     ·subst h4; rw [HY.out] at hz; cases hz; exact h2
     exact HHI.out j z (by omega) hz), BX⟩
    case measure => simp [intOf]; omega
  obtain rfl : i = n := by omega
  have q1 : ¬ (i : Int) < (i : Int) := by omega
  go_wp2_with fail
  go_ret
  exact ⟨_, zs, rfl, HRW.out, (fun z => by rw [HM.out z, List.take_of_length_le (by rw [← HN.out]; exact Nat.le_refl _)]), by rw [HZL.out, HN.out], HS.out, BW.out⟩
end Go.Proofs.Ytmjfnpmnhehnkaa
