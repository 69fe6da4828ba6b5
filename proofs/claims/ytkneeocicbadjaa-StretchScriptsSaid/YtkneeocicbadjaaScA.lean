/- walks: StretchScripts -/
import Derived.Test.YtkneeocicbadjaaKnC
import Derived.Test.YtkneeocicbadjaaPnS
namespace Go.Proofs.Ytkneeocicbadjaa
open Go.RowKit
def Aft (ds : List Nat) (P O : ByteArray) : Prop :=
  ∃ lo, P = ⟨(encL (plainL ds)).toArray⟩ ∧ O = ⟨(encL lo).toArray⟩ ∧ (∀ r ∈ lo, okRune r) ∧ (∀ d ∈ ds, d ≤ 9) ∧ Same lo ds ∧ P.size ≤ 4 * ds.length ∧ O.size ≤ 1 + 5 * ds.length
theorem aft_nil : Aft [] ⟨#[]⟩ ⟨#[32]⟩ := ⟨[32], rfl, by decide, by intro r hr; simp at hr; subst hr; unfold okRune; omega, by simp, fun acc rest => by rw [List.cons_append, nl_cons, if_pos (by decide)]; rfl, by decide, by decide⟩
theorem aft_step (ds : List Nat) (P O : ByteArray) (h : Aft ds P O) (d : Nat) (hd : d ≤ 9) (b : Nat) (hb : b = 48 ∨ b = 65296 ∨ b = 1632 ∨ b = 1776) :
    Aft (ds ++ [d]) (P ++ Utf8.encode (48 + (d : Int))) (O ++ (Utf8.encode ((b : Int) + (d : Int)) ++ ⟨#[45]⟩)) := by
  obtain ⟨lo, hP, hO, hok, hds, hsame, hz1, hz2⟩ := h
  have e1 : Utf8.encode (48 + (d : Int)) = ⟨(encL [48 + d]).toArray⟩ := by
    have := encode_str (48 + d) (by omega)
    simpa using this
  have e2 : Utf8.encode ((b : Int) + (d : Int)) = ⟨(encL [b + d]).toArray⟩ := by
    have := encode_str (b + d) (by omega)
    simpa using this
  have e3 : (⟨#[45]⟩ : ByteArray) = ⟨(encL [45]).toArray⟩ := by decide
  have hdg : dg ((b + d : Nat) : Int) = d := by have := dg_cases ((b + d : Nat) : Int); omega
  have hs2 := same_step lo ds [] (b + d) d hsame (.inl rfl) hd hdg
  refine ⟨lo ++ ([b + d] ++ [45]), ?_, ?_, ?_, ?_, ?_, ?_, ?_⟩
  · rw [hP, e1, str_append, ← encL_append]; simp [plainL]
  · rw [hO, e2, e3, str_append, str_append, ← encL_append, ← encL_append]
  · intro r hr
    rcases List.mem_append.1 hr with hr | hr
    · exact hok r hr
    · simp at hr; unfold okRune; omega
  · intro x hx
    rcases List.mem_append.1 hx with hx | hx
    · exact hds x hx
    · simp at hx; omega
  · intro acc rest
    have h1 := hs2 acc (45 :: rest)
    have h2 : lo ++ ([b + d] ++ [45]) ++ rest = lo ++ ([] ++ [b + d]) ++ 45 :: rest := by simp
    rw [h2, h1]
    exact nl_congr _ _ _ (fun a => by rw [nl_cons, if_pos (by decide)]) acc
  · have h1 := encode_size_le (48 + (d : Int))
    rw [ByteArray.size_append]; simp; omega
  · have h1 := encode_size_le ((b : Int) + (d : Int))
    have h2 : (⟨#[45]⟩ : ByteArray).size = 1 := rfl
    rw [ByteArray.size_append, ByteArray.size_append, h2]; simp; omega
theorem aft_nrm (ds : List Nat) (P O : ByteArray) (h : Aft ds P O) (h4 : 4 ≤ ds.length) (h12 : ds.length ≤ 12) : nrm (signs P) = some (digB ds) ∧ nrm (signs O) = some (digB ds) ∧ P.data.toList = digB ds := by
  obtain ⟨lo, hP, hO, hok, hds, hs, _, _⟩ := h
  have h1 : signs O = lo := by rw [hO]; exact signs_enc lo hok
  have h2 : signs P = plainL ds := by rw [hP]; exact signs_enc _ (plain_ok ds hds)
  have h3 := nrm_plain ds hds
  rw [if_pos ⟨h4, h12⟩] at h3
  exact ⟨by rw [h2, h3], by rw [h1, same_nrm lo ds hs, h3], by rw [hP, plain_bytes ds hds]⟩
set_option maxHeartbeats 4000000 in
set_option maxRecDepth 100000 in
theorem sscripts_any (n : Int) (hn0 : 0 ≤ n) (hn1 : n < 4294967296) (I1 I2 : List UInt8) (hI1 : I1.length = 4) (hI2 : I2.length = 4) (c : Int) (hc : -9223372036854775808 ≤ c ∧ c ≤ 9223372036854775807) (w : World) :
    Calls Try.prog 11 #[.int .u32 n, idV I1, idV I2, .int .i64 c] w fun e w' => e = .returned (.bool true) ∧ Below w.heap.size w w' := by
  obtain ⟨cs, hcs⟩ : ∃ cs, cs = (Lib.byteCells I1).toArray := ⟨_, rfl⟩
  obtain ⟨ds, hds⟩ : ∃ ds, ds = (Lib.byteCells I2).toArray := ⟨_, rfl⟩
  have hv : idV I1 = .agg cs := by rw [hcs]; rfl
  have hv2 : idV I2 = .agg ds := by rw [hds]; rfl
  have x1 : Ex (w.alloc (.cells cs 47)) ((w.alloc (.cells cs 47)).alloc (.cells ds 47)) := (Below.refl _ _).alloc (Nat.le_refl _) _
  have HA : Hid (Bk ((w.alloc (.cells cs 47)).alloc (.cells ds 47)) w.heap.size 47 (Lib.byteCells I1).toArray) := by rw [← hcs]; exact Lib.hid ((Bk.new (w := w) rfl _ cs).ext x1)
  have HB : Hid (Bk ((w.alloc (.cells cs 47)).alloc (.cells ds 47)) (w.heap.size + 1) 47 (Lib.byteCells I2).toArray) := by rw [← hds]; exact Lib.hid (Bk.new (by simp) _ _)
  have bw : Below w.heap.size w ((w.alloc (.cells cs 47)).alloc (.cells ds 47)) := ((Below.refl _ _).alloc (Nat.le_refl _) _).alloc (by simp) _
  have bz : w.heap.size + 2 ≤ ((w.alloc (.cells cs 47)).alloc (.cells ds 47)).heap.size := by simp
  have HI1 := Lib.hid hI1
  have HI2 := Lib.hid hI2
  rw [hv, hv2]
  clear hv hv2 hcs hds hI1 hI2 x1
  have t1 := Int.tmod_lt_of_pos c (show (0 : Int) < 4 by omega)
  have t2 := Int.lt_tmod_of_pos c (show (0 : Int) < 4 by omega)
  go_enter Try.func11, Try.ntmps11
  obtain ⟨b, hb, hcell⟩ : ∃ b : Nat, (b = 48 ∨ b = 65296 ∨ b = 1632 ∨ b = 1776) ∧ ([.int .i32 48, .int .i32 65296, .int .i32 1632, .int .i32 1776] : List Value)[(c.tmod 4 % 4).toNat]? = some (.int .i32 b) := by
    have h : c.tmod 4 % 4 = 0 ∨ c.tmod 4 % 4 = 1 ∨ c.tmod 4 % 4 = 2 ∨ c.tmod 4 % 4 = 3 := by omega
    rcases h with h | h | h | h <;> rw [h]
    · exact ⟨48, by omega, rfl⟩
    · exact ⟨65296, by omega, rfl⟩
    · exact ⟨1632, by omega, rfl⟩
    · exact ⟨1776, by omega, rfl⟩
  have HBB := Lib.hid hb
  have hb1 : (b : Int) ≤ 65296 := by omega
  clear hb
  go_wp2_with fail
  have xc : Ex ((w.alloc (.cells cs 47)).alloc (.cells ds 47)) (((w.alloc (.cells cs 47)).alloc (.cells ds 47)).alloc (.cells #[.int .i32 48, .int .i32 65296, .int .i32 1632, .int .i32 1776] 21)) := (Below.refl _ _).alloc (Nat.le_refl _) _
  have HA2 := Lib.hid (HA.out.ext xc)
  have HB2 := Lib.hid (HB.out.ext xc)
  have bw2 := bw.trans (xc.mono bw.size)
  have bz2 := xc.size
  have bz3 : w.heap.size + 2 ≤ (((w.alloc (.cells cs 47)).alloc (.cells ds 47)).alloc (.cells #[.int .i32 48, .int .i32 65296, .int .i32 1632, .int .i32 1776] 21)).heap.size := by omega
  obtain ⟨w3, hw3⟩ : ∃ w3, w3 = ((w.alloc (.cells cs 47)).alloc (.cells ds 47)).alloc (.cells #[.int .i32 48, .int .i32 65296, .int .i32 1632, .int .i32 1776] 21) := ⟨_, rfl⟩
  rw [← hw3] at HA2 HB2 bw2 bz3 ⊢
  clear HA HB bw bz xc bz2 hw3 hcell t1 t2 hc
  obtain ⟨d0, hd0⟩ : ∃ d0, d0 = n % 900000 + 1000 := ⟨_, rfl⟩
  have HD0 := Lib.hid (show 1000 ≤ d0 ∧ d0 ≤ 900999 by omega)
  rw [← hd0]
  clear hd0 hn0 hn1
  go_loop [9, 10, 12] (fun p o x' => ∃ (ds : List Nat) (P O : ByteArray) (x : Int), p = .string P ∧ o = .string O ∧ x' = .int .u32 x ∧ Hid (Aft ds P O) ∧ 0 ≤ x ∧ x ≤ 900999 ∧ Hid ((ds.length = 0 ∧ x = d0) ∨ (ds.length = 1 ∧ x = d0 / 10) ∨ (ds.length = 2 ∧ x = d0 / 100) ∨ (ds.length = 3 ∧ x = d0 / 1000) ∨ (ds.length = 4 ∧ x = d0 / 10000) ∨ (ds.length = 5 ∧ x = d0 / 100000) ∨ (ds.length = 6 ∧ x = d0 / 1000000))) (fun _ _ x' => (intOf x').toNat)
  case atStart =>
    have := HD0.out
    exact ⟨[], _, _, d0, rfl, rfl, rfl, Lib.hid aft_nil, by omega, by omega, Lib.hid (.inl ⟨rfl, rfl⟩)⟩
  case round =>
    obtain ⟨ds, P, O, x, rfl, rfl, rfl, haf, hx0, hx1, hxx⟩ := hrel
    obtain ⟨k, hk⟩ : ∃ k, k = ds.length := ⟨_, rfl⟩
    rw [← hk] at hxx
    have hk6 : k ≤ 6 := by have := hxx.out; omega
    have HK := Lib.hid hk
    have hPz : P.size ≤ 24 := by obtain ⟨lo, _, _, _, _, _, hz1, hz2⟩ := haf.out; omega
    have hOz : O.size ≤ 31 := by obtain ⟨lo, _, _, _, _, _, hz1, hz2⟩ := haf.out; omega
    clear hk
    by_cases hlt : 0 < x
    · have f1 := encode_size_le (48 + x % 10)
      have f2 := encode_size_le ((b : Int) + x % 10)
      have f3 : (⟨#[45]⟩ : ByteArray).size = 1 := rfl
      have f4 : (Utf8.encode ((b : Int) + x % 10) ++ ⟨#[45]⟩).size ≤ 5 := by rw [ByteArray.size_append]; omega
      go_wp2_with fail
      obtain ⟨d, hd⟩ := Int.eq_ofNat_of_zero_le (show 0 ≤ x % 10 by omega)
      have ha := aft_step ds P O haf.out d (by omega) b HBB.out
      have hl : (ds ++ [d]).length = k + 1 := by rw [List.length_append, ← HK.out]; rfl
      rw [← hd] at ha
      refine ⟨⟨ds ++ [d], _, _, x / 10, rfl, rfl, rfl, Lib.hid ha, by omega, by omega, Lib.hid ?_⟩, ?_⟩
      · have hh := hxx.out
        rw [hl]
        have := HD0.out
        rcases hh with hh | hh | hh | hh | hh | hh | hh <;> omega
      · simp [intOf]; omega
    · obtain ⟨nP, nO, hPd⟩ := aft_nrm ds P O haf.out (by have := hxx.out; have := HD0.out; have := HK.out; omega) (by have := HK.out; omega)
      obtain ⟨D, hD⟩ : ∃ D, D = digB ds := ⟨_, rfl⟩
      rw [← hD] at nP nO hPd
      obtain ⟨S1, hS1⟩ : ∃ S, S = sumL I1 := ⟨_, rfl⟩
      obtain ⟨S2, hS2⟩ : ∃ S, S = sumL I2 := ⟨_, rfl⟩
      obtain ⟨X1, hX1⟩ : ∃ X, X = digsL D S1 16 := ⟨_, rfl⟩
      obtain ⟨X2, hX2⟩ : ∃ X, X = digsL D S2 16 := ⟨_, rfl⟩
      have hX1l : X1.length = 16 := by rw [hX1]; exact digsL_len _ _ _
      have hX2l : X2.length = 16 := by rw [hX2]; exact digsL_len _ _ _
      have HX1 := Lib.hid hX1l
      have HX2 := Lib.hid hX2l
      have HZ := Lib.hid hPz
      have P1 : Hid (∀ W : World, Calls Try.prog 42 #[.string P, idV I1] W fun e w' => e = .returned (.tuple #[digV X1, .int .i64 0]) ∧ Ex W w') := Lib.hid (fun W => by
        have h := pin_any P I1 HI1.out W
        rw [show pinL P I1 = X1 by rw [hX1, hS1]; unfold pinL; rw [nP], show pinE P = 0 by unfold pinE; rw [nP]] at h
        exact h)
      have P2 : Hid (∀ W : World, Calls Try.prog 42 #[.string O, idV I1] W fun e w' => e = .returned (.tuple #[digV X1, .int .i64 0]) ∧ Ex W w') := Lib.hid (fun W => by
        have h := pin_any O I1 HI1.out W
        rw [show pinL O I1 = X1 by rw [hX1, hS1]; unfold pinL; rw [nO], show pinE O = 0 by unfold pinE; rw [nO]] at h
        exact h)
      have P3 : Hid (∀ W : World, Calls Try.prog 42 #[.string O, idV I2] W fun e w' => e = .returned (.tuple #[digV X2, .int .i64 0]) ∧ Ex W w') := Lib.hid (fun W => by
        have h := pin_any O I2 HI2.out W
        rw [show pinL O I2 = X2 by rw [hX2, hS2]; unfold pinL; rw [nO], show pinE O = 0 by unfold pinE; rw [nO]] at h
        exact h)
      have RS := Lib.hid (fun W => by have h := rsalt_any I2 HI2.out W; rw [← hS2] at h; exact h)
      have DR : Hid (∀ W : World, Calls Try.prog 37 #[.string P, digV S2, .int .i64 16] W fun e w' => e = .returned (digV X2) ∧ Below W.heap.size W w') := Lib.hid (fun W => by
        have h := rdigits_any P (by have := HZ.out; omega) S2 (by rw [hS2]; exact sumL_len _) 16 W
        rw [hPd] at h
        rw [hX2]; exact h)
      have KN := Lib.hid known3_any
      clear nP nO hPd hD hS1 hS2 hX1 hX2 haf hxx HK hk6 hPz hOz
      go_wp2_with ((with_reducible refine at_any ?_ ?_); (focus go_simp); (refine fun K hK => wp_ldi _ _ I1 rfl rfl HI1.out HA2.out (hK _ _ ?_)))
      refine (P1.out _).mono ?_
      rintro e w4 ⟨rfl, x4⟩
      have x5 : Ex w4 (w4.alloc (.cells zero16 24)) := (Below.refl _ _).alloc (Nat.le_refl _) _
      have x6 := Ex.trans x4 x5
      obtain ⟨g1, hg1⟩ : ∃ g, g = w4.heap.size := ⟨_, rfl⟩
      have HA3 := Lib.hid (HA2.out.ext x6)
      have HB3 := Lib.hid (HB2.out.ext x6)
      have bw3 : Below w.heap.size w (w4.alloc (.cells zero16 24)) := bw2.trans (x6.mono bw2.size)
      have gz1 : w.heap.size + 2 ≤ g1 := by have := x4.size; omega
      clear HA2 HB2 bw2 bz3 x4 x5 x6 P1
      go_wp2_with (first
        | ((with_reducible refine at_any ?_ ?_); (focus go_simp); (refine fun K hK => wp_st _ _ w4.heap.size X1 rfl rfl rfl HX1.out (Bk.new rfl _ _) rfl (fun w5 hd ho => hK _ _ ?_)))
        | ((with_reducible refine at_any ?_ ?_); (focus go_simp); (refine fun K hK => wp_ldi _ _ I1 rfl rfl HI1.out (ho.bk HA3.out (by omega)) (hK _ _ ?_))))
      have HC1 := Lib.hid hd
      have HA4 := Lib.hid (ho.bk HA3.out (by omega))
      have HB4 := Lib.hid (ho.bk HB3.out (by omega))
      have bw5 := ho.below _ (by omega) _ bw3
      rw [← hg1] at HC1 ⊢
      clear hd ho HA3 HB3 bw3 hg1
      refine (P2.out _).mono ?_
      rintro e w6 ⟨rfl, x4⟩
      have x5 : Ex w6 (w6.alloc (.cells zero16 24)) := (Below.refl _ _).alloc (Nat.le_refl _) _
      have x6 := Ex.trans x4 x5
      obtain ⟨g2, hg2⟩ : ∃ g, g = w6.heap.size := ⟨_, rfl⟩
      have lC1 := HC1.out.lt
      have sC1 := x4.size
      have HC1b := Lib.hid (HC1.out.ext x6)
      have HA5 := Lib.hid (HA4.out.ext x6)
      have HB5 := Lib.hid (HB4.out.ext x6)
      have bw6 : Below w.heap.size w (w6.alloc (.cells zero16 24)) := bw5.trans (x6.mono bw5.size)
      have gz2 : g1 < g2 := by omega
      clear HA4 HB4 bw5 x4 x5 x6 P2 HC1 lC1 sC1
      go_wp2_with (first
        | ((with_reducible refine at_any ?_ ?_); (focus go_simp); (refine fun K hK => wp_st _ _ w6.heap.size X1 rfl rfl rfl HX1.out (Bk.new rfl _ _) rfl (fun w7 hd ho => hK _ _ ?_)))
        | ((with_reducible refine at_any ?_ ?_); (focus go_simp); (refine fun K hK => wp_ldi _ _ I2 rfl rfl HI2.out (ho.bk HB5.out (by omega)) (hK _ _ ?_))))
      have HC2 := Lib.hid hd
      have HC1 := Lib.hid (ho.db HC1b.out (by omega))
      have HB6 := Lib.hid (ho.bk HB5.out (by omega))
      have bw7 := ho.below _ (by omega) _ bw6
      rw [← hg2] at HC2 ⊢
      clear hd ho HA5 HB5 bw6 hg2 HC1b
      refine (P3.out _).mono ?_
      rintro e w8 ⟨rfl, x4⟩
      have x5 : Ex w8 (w8.alloc (.cells zero16 24)) := (Below.refl _ _).alloc (Nat.le_refl _) _
      have x6 := Ex.trans x4 x5
      obtain ⟨g3, hg3⟩ : ∃ g, g = w8.heap.size := ⟨_, rfl⟩
      have lC2 := HC2.out.lt
      have sC2 := x4.size
      have HC1b := Lib.hid (HC1.out.ext x6)
      have HC2b := Lib.hid (HC2.out.ext x6)
      have HB7 := Lib.hid (HB6.out.ext x6)
      have bw8 : Below w.heap.size w (w8.alloc (.cells zero16 24)) := bw7.trans (x6.mono bw7.size)
      have gz3 : g2 < g3 := by omega
      clear HB6 bw7 x4 x5 x6 P3 HC1 HC2 lC2 sC2
      go_wp2_with ((with_reducible refine at_any ?_ ?_); (focus go_simp); (refine fun K hK => wp_st _ _ w8.heap.size X2 rfl rfl rfl HX2.out (Bk.new rfl _ _) rfl (fun wr hd ho => hK _ _ ?_)))
      have HC3 := Lib.hid hd
      have HC1 := Lib.hid (ho.db HC1b.out (by omega))
      have HC2 := Lib.hid (ho.db HC2b.out (by omega))
      have HB := Lib.hid (ho.bk HB7.out (by omega))
      have bw9 := ho.below _ (by omega) _ bw8
      have bz9 := bw9.size
      rw [← hg3] at HC3 ⊢
      clear hd ho HB7 bw8 hg3 HC1b HC2b hx0 hx1 hlt hb1
      obtain ⟨T, hT⟩ : ∃ T : List As, T = [.is (.int .i64 0), .is (.bool true), .is (.bool true), .is (.int .i64 0), .is (.bool true), .is (.bool true), .is (.bool true), .is (.int .i64 0), .is (.bool true), .is (.bool true), .is (.bool true), .is (digV X1), .is (digV X1), .is (.bool true), .is (.bool true), .is (.bool true), .is (digV X2), .is (.string P), .is (idV I2), .is (digV S2), .is (digV X2), .is (.bool true), .is (.bool true), .is (.bool true), .is (.bool true), .is (.bool true)] := ⟨_, rfl⟩
      refine wp_region_flow 26 (tabPhi T) (by kernel_rfl) rfl (by kernel_rfl) (by kernel_rfl) (by kernel_rfl) (tabPhi_stable T) (fitB_spec (by kernel_rfl)) ?_ ?_
      · intro i o hi ho
        have hi' : i = 0 ∨ i = 1 ∨ i = 2 ∨ i = 3 ∨ i = 4 ∨ i = 5 ∨ i = 6 ∨ i = 7 ∨ i = 8 ∨ i = 9 ∨ i = 10 ∨ i = 11 ∨ i = 12 ∨ i = 13 ∨ i = 14 ∨ i = 15 ∨ i = 16 ∨ i = 17 ∨ i = 18 ∨ i = 19 ∨ i = 20 ∨ i = 21 ∨ i = 22 ∨ i = 23 ∨ i = 24 ∨ i = 25 := by omega
        rcases hi' with rfl | rfl | rfl | rfl | rfl | rfl | rfl | rfl | rfl | rfl | rfl | rfl | rfl | rfl | rfl | rfl | rfl | rfl | rfl | rfl | rfl | rfl | rfl | rfl | rfl | rfl
        all_goals (simp only [List.getElem?_toArray, List.getElem?_cons_zero, List.getElem?_cons_succ, Option.some.injEq] at ho; subst ho; intro a w2 hx hsz hdep hout)
        · rw [if_pos (by rfl)]
          intro K hK
          have f := hout 14 (outB_spec (by kernel_rfl))
          exact wp_mv _ rfl (hK _ _ (Ex.refl _) (by rw [hT]; exact f))
        · rw [if_pos (by rfl)]
          intro K hK
          obtain ⟨v, hv, kv⟩ := hdep ⟨0, .data⟩ (by simp) rfl _ rfl
          have qv := kv _ rfl
          rw [hT] at hv
          obtain rfl : v = .int .i64 0 := hv
          clear hsz hdep hout kv
          go_simp
          exact hK _ _ (Ex.refl _) (by rw [hT]; rfl)
        · rw [if_pos (by rfl)]
          intro K hK
          obtain ⟨v, hv, kv⟩ := hdep ⟨1, .data⟩ (by simp) rfl _ rfl
          have qv := kv _ rfl
          rw [hT] at hv
          obtain rfl : v = .bool true := hv
          exact wp_mv _ rfl (hK _ _ (Ex.refl _) (by rw [hT]; exact qv))
        · obtain ⟨vg, hvg, kg⟩ := hdep ⟨2, .guard⟩ (by simp) rfl _ rfl
          rw [hT] at hvg
          obtain rfl : vg = .bool true := hvg
          rw [if_pos (wanted_of rfl rfl rfl (kg _ rfl))]
          intro K hK
          have f := hout 16 (outB_spec (by kernel_rfl))
          exact wp_mv _ rfl (hK _ _ (Ex.refl _) (by rw [hT]; exact f))
        · obtain ⟨vg, hvg, kg⟩ := hdep ⟨2, .guard⟩ (by simp) rfl _ rfl
          rw [hT] at hvg
          obtain rfl : vg = .bool true := hvg
          rw [if_pos (wanted_of rfl rfl rfl (kg _ rfl))]
          intro K hK
          obtain ⟨v, hv, kv⟩ := hdep ⟨3, .data⟩ (by simp) rfl _ rfl
          have qv := kv _ rfl
          rw [hT] at hv
          obtain rfl : v = .int .i64 0 := hv
          clear hsz hdep hout kg kv
          go_simp
          exact hK _ _ (Ex.refl _) (by rw [hT]; rfl)
        · rw [if_pos (by rfl)]
          intro K hK
          obtain ⟨v, hv, kv⟩ := hdep ⟨2, .data⟩ (by simp) rfl _ rfl
          have qv := kv _ rfl
          rw [hT] at hv
          obtain rfl : v = .bool true := hv
          obtain ⟨u, hu, ku⟩ := hdep ⟨4, .data⟩ (by simp) rfl _ rfl
          have qu := ku _ rfl
          rw [hT] at hu
          obtain rfl : u = .bool true := hu
          clear hsz hdep hout
          go_simp
          exact hK _ _ (Ex.refl _) (by rw [hT]; rfl)
        · rw [if_pos (by rfl)]
          intro K hK
          obtain ⟨v, hv, kv⟩ := hdep ⟨5, .data⟩ (by simp) rfl _ rfl
          have qv := kv _ rfl
          rw [hT] at hv
          obtain rfl : v = .bool true := hv
          exact wp_mv _ rfl (hK _ _ (Ex.refl _) (by rw [hT]; exact qv))
        · obtain ⟨vg, hvg, kg⟩ := hdep ⟨6, .guard⟩ (by simp) rfl _ rfl
          rw [hT] at hvg
          obtain rfl : vg = .bool true := hvg
          rw [if_pos (wanted_of rfl rfl rfl (kg _ rfl))]
          intro K hK
          have f := hout 18 (outB_spec (by kernel_rfl))
          exact wp_mv _ rfl (hK _ _ (Ex.refl _) (by rw [hT]; exact f))
        · obtain ⟨vg, hvg, kg⟩ := hdep ⟨6, .guard⟩ (by simp) rfl _ rfl
          rw [hT] at hvg
          obtain rfl : vg = .bool true := hvg
          rw [if_pos (wanted_of rfl rfl rfl (kg _ rfl))]
          intro K hK
          obtain ⟨v, hv, kv⟩ := hdep ⟨7, .data⟩ (by simp) rfl _ rfl
          have qv := kv _ rfl
          rw [hT] at hv
          obtain rfl : v = .int .i64 0 := hv
          clear hsz hdep hout kg kv
          go_simp
          exact hK _ _ (Ex.refl _) (by rw [hT]; rfl)
        · rw [if_pos (by rfl)]
          intro K hK
          obtain ⟨v, hv, kv⟩ := hdep ⟨6, .data⟩ (by simp) rfl _ rfl
          have qv := kv _ rfl
          rw [hT] at hv
          obtain rfl : v = .bool true := hv
          obtain ⟨u, hu, ku⟩ := hdep ⟨8, .data⟩ (by simp) rfl _ rfl
          have qu := ku _ rfl
          rw [hT] at hu
          obtain rfl : u = .bool true := hu
          clear hsz hdep hout
          go_simp
          exact hK _ _ (Ex.refl _) (by rw [hT]; rfl)
        · rw [if_pos (by rfl)]
          intro K hK
          obtain ⟨v, hv, kv⟩ := hdep ⟨9, .data⟩ (by simp) rfl _ rfl
          have qv := kv _ rfl
          rw [hT] at hv
          obtain rfl : v = .bool true := hv
          exact wp_mv _ rfl (hK _ _ (Ex.refl _) (by rw [hT]; exact qv))
        · obtain ⟨vg, hvg, kg⟩ := hdep ⟨10, .guard⟩ (by simp) rfl _ rfl
          rw [hT] at hvg
          obtain rfl : vg = .bool true := hvg
          rw [if_pos (wanted_of rfl rfl rfl (kg _ rfl))]
          intro K hK
          have f := hout 13 (outB_spec (by kernel_rfl))
          exact wp_ld _ g1 X1 rfl f (HC1.out.ext (Ex.trans (show Ex wr wr.drew from (Below.refl _ _).drew) hx)) (hK _ _ (Ex.refl _) (by rw [hT]; rfl))
        · obtain ⟨vg, hvg, kg⟩ := hdep ⟨10, .guard⟩ (by simp) rfl _ rfl
          rw [hT] at hvg
          obtain rfl : vg = .bool true := hvg
          rw [if_pos (wanted_of rfl rfl rfl (kg _ rfl))]
          intro K hK
          have f := hout 15 (outB_spec (by kernel_rfl))
          exact wp_ld _ g2 X1 rfl f (HC2.out.ext (Ex.trans (show Ex wr wr.drew from (Below.refl _ _).drew) hx)) (hK _ _ (Ex.refl _) (by rw [hT]; rfl))
        · obtain ⟨vg, hvg, kg⟩ := hdep ⟨10, .guard⟩ (by simp) rfl _ rfl
          rw [hT] at hvg
          obtain rfl : vg = .bool true := hvg
          rw [if_pos (wanted_of rfl rfl rfl (kg _ rfl))]
          intro K hK
          obtain ⟨v, hv, kv⟩ := hdep ⟨11, .data⟩ (by simp) rfl _ rfl
          have qv := kv _ rfl
          rw [hT] at hv
          obtain rfl : v = digV X1 := hv
          obtain ⟨u, hu, ku⟩ := hdep ⟨12, .data⟩ (by simp) rfl _ rfl
          have qu := ku _ rfl
          rw [hT] at hu
          obtain rfl : u = digV X1 := hu
          exact wp_eql_dig _ _ _ rfl X1 X1 hX1l hX1l qv qu (hK _ _ (Ex.refl _) (by rw [hT, decide_eq_true rfl]; rfl))
        · rw [if_pos (by rfl)]
          intro K hK
          obtain ⟨v, hv, kv⟩ := hdep ⟨10, .data⟩ (by simp) rfl _ rfl
          have qv := kv _ rfl
          rw [hT] at hv
          obtain rfl : v = .bool true := hv
          obtain ⟨u, hu, ku⟩ := hdep ⟨13, .data⟩ (by simp) rfl _ rfl
          have qu := ku _ rfl
          rw [hT] at hu
          obtain rfl : u = .bool true := hu
          clear hsz hdep hout
          go_simp
          exact hK _ _ (Ex.refl _) (by rw [hT]; rfl)
        · rw [if_pos (by rfl)]
          intro K hK
          obtain ⟨v, hv, kv⟩ := hdep ⟨14, .data⟩ (by simp) rfl _ rfl
          have qv := kv _ rfl
          rw [hT] at hv
          obtain rfl : v = .bool true := hv
          exact wp_mv _ rfl (hK _ _ (Ex.refl _) (by rw [hT]; exact qv))
        · obtain ⟨vg, hvg, kg⟩ := hdep ⟨15, .guard⟩ (by simp) rfl _ rfl
          rw [hT] at hvg
          obtain rfl : vg = .bool true := hvg
          rw [if_pos (wanted_of rfl rfl rfl (kg _ rfl))]
          intro K hK
          have f := hout 17 (outB_spec (by kernel_rfl))
          exact wp_ld _ g3 X2 rfl f (HC3.out.ext (Ex.trans (show Ex wr wr.drew from (Below.refl _ _).drew) hx)) (hK _ _ (Ex.refl _) (by rw [hT]; rfl))
        · obtain ⟨vg, hvg, kg⟩ := hdep ⟨15, .guard⟩ (by simp) rfl _ rfl
          rw [hT] at hvg
          obtain rfl : vg = .bool true := hvg
          rw [if_pos (wanted_of rfl rfl rfl (kg _ rfl))]
          intro K hK
          have f := hout 9 (outB_spec (by kernel_rfl))
          exact wp_mv _ rfl (hK _ _ (Ex.refl _) (by rw [hT]; exact f))
        · obtain ⟨vg, hvg, kg⟩ := hdep ⟨15, .guard⟩ (by simp) rfl _ rfl
          rw [hT] at hvg
          obtain rfl : vg = .bool true := hvg
          rw [if_pos (wanted_of rfl rfl rfl (kg _ rfl))]
          intro K hK
          have f := hout 6 (outB_spec (by kernel_rfl))
          exact wp_ldi _ (w.heap.size + 1) I2 rfl f HI2.out (HB.out.ext (Ex.trans (show Ex wr wr.drew from (Below.refl _ _).drew) hx)) (hK _ _ (Ex.refl _) (by rw [hT]; rfl))
        · obtain ⟨vg, hvg, kg⟩ := hdep ⟨15, .guard⟩ (by simp) rfl _ rfl
          rw [hT] at hvg
          obtain rfl : vg = .bool true := hvg
          rw [if_pos (wanted_of rfl rfl rfl (kg _ rfl))]
          intro K hK
          obtain ⟨v, hv, kv⟩ := hdep ⟨18, .data⟩ (by simp) rfl _ rfl
          have qv := kv _ rfl
          rw [hT] at hv
          obtain rfl : v = idV I2 := hv
          go_simp
          refine (RS.out w2).mono ?_
          rintro e w3 ⟨rfl, hex⟩
          exact hK _ _ hex (by rw [hT]; rfl)
        · obtain ⟨vg, hvg, kg⟩ := hdep ⟨15, .guard⟩ (by simp) rfl _ rfl
          rw [hT] at hvg
          obtain rfl : vg = .bool true := hvg
          rw [if_pos (wanted_of rfl rfl rfl (kg _ rfl))]
          intro K hK
          obtain ⟨v, hv, kv⟩ := hdep ⟨17, .data⟩ (by simp) rfl _ rfl
          have qv := kv _ rfl
          rw [hT] at hv
          obtain rfl : v = .string P := hv
          obtain ⟨u, hu, ku⟩ := hdep ⟨19, .data⟩ (by simp) rfl _ rfl
          have qu := ku _ rfl
          rw [hT] at hu
          obtain rfl : u = digV S2 := hu
          go_simp
          refine (DR.out w2).mono ?_
          rintro e w3 ⟨rfl, hex⟩
          exact hK _ _ hex (by rw [hT]; rfl)
        · obtain ⟨vg, hvg, kg⟩ := hdep ⟨15, .guard⟩ (by simp) rfl _ rfl
          rw [hT] at hvg
          obtain rfl : vg = .bool true := hvg
          rw [if_pos (wanted_of rfl rfl rfl (kg _ rfl))]
          intro K hK
          obtain ⟨v, hv, kv⟩ := hdep ⟨16, .data⟩ (by simp) rfl _ rfl
          have qv := kv _ rfl
          rw [hT] at hv
          obtain rfl : v = digV X2 := hv
          obtain ⟨u, hu, ku⟩ := hdep ⟨20, .data⟩ (by simp) rfl _ rfl
          have qu := ku _ rfl
          rw [hT] at hu
          obtain rfl : u = digV X2 := hu
          exact wp_eql_dig _ _ _ rfl X2 X2 hX2l hX2l qv qu (hK _ _ (Ex.refl _) (by rw [hT, decide_eq_true rfl]; rfl))
        · rw [if_pos (by rfl)]
          intro K hK
          obtain ⟨v, hv, kv⟩ := hdep ⟨15, .data⟩ (by simp) rfl _ rfl
          have qv := kv _ rfl
          rw [hT] at hv
          obtain rfl : v = .bool true := hv
          obtain ⟨u, hu, ku⟩ := hdep ⟨21, .data⟩ (by simp) rfl _ rfl
          have qu := ku _ rfl
          rw [hT] at hu
          obtain rfl : u = .bool true := hu
          clear hsz hdep hout
          go_simp
          exact hK _ _ (Ex.refl _) (by rw [hT]; rfl)
        · rw [if_pos (by rfl)]
          intro K hK
          obtain ⟨v, hv, kv⟩ := hdep ⟨22, .data⟩ (by simp) rfl _ rfl
          have qv := kv _ rfl
          rw [hT] at hv
          obtain rfl : v = .bool true := hv
          exact wp_mv _ rfl (hK _ _ (Ex.refl _) (by rw [hT]; exact qv))
        · obtain ⟨vg, hvg, kg⟩ := hdep ⟨23, .guard⟩ (by simp) rfl _ rfl
          rw [hT] at hvg
          obtain rfl : vg = .bool true := hvg
          rw [if_pos (wanted_of rfl rfl rfl (kg _ rfl))]
          intro K hK
          go_simp
          refine (KN.out w2).mono ?_
          rintro e w3 ⟨rfl, hex⟩
          exact hK _ _ hex (by rw [hT]; rfl)
        · rw [if_pos (by rfl)]
          intro K hK
          obtain ⟨v, hv, kv⟩ := hdep ⟨23, .data⟩ (by simp) rfl _ rfl
          have qv := kv _ rfl
          rw [hT] at hv
          obtain rfl : v = .bool true := hv
          obtain ⟨u, hu, ku⟩ := hdep ⟨24, .data⟩ (by simp) rfl _ rfl
          have qu := ku _ rfl
          rw [hT] at hu
          obtain rfl : u = .bool true := hu
          clear hsz hdep hout
          go_simp
          exact hK _ _ (Ex.refl _) (by rw [hT]; rfl)
      · intro a w2 hx hdef hsz hdone hout
        obtain ⟨v, hv, kv⟩ := hdone 25 _ (by omega) rfl
        have qv := kv _ rfl
        rw [hT] at hv
        obtain rfl : v = .bool true := hv
        clear hdone kv hT
        have hA := arr_range a.tmps 93 hsz
        change a.tmps = #[a.tmps[0]?.getD undef, a.tmps[1]?.getD undef, a.tmps[2]?.getD undef, a.tmps[3]?.getD undef, a.tmps[4]?.getD undef, a.tmps[5]?.getD undef, a.tmps[6]?.getD undef, a.tmps[7]?.getD undef, a.tmps[8]?.getD undef, a.tmps[9]?.getD undef, a.tmps[10]?.getD undef, a.tmps[11]?.getD undef, a.tmps[12]?.getD undef, a.tmps[13]?.getD undef, a.tmps[14]?.getD undef, a.tmps[15]?.getD undef, a.tmps[16]?.getD undef, a.tmps[17]?.getD undef, a.tmps[18]?.getD undef, a.tmps[19]?.getD undef, a.tmps[20]?.getD undef, a.tmps[21]?.getD undef, a.tmps[22]?.getD undef, a.tmps[23]?.getD undef, a.tmps[24]?.getD undef, a.tmps[25]?.getD undef, a.tmps[26]?.getD undef, a.tmps[27]?.getD undef, a.tmps[28]?.getD undef, a.tmps[29]?.getD undef, a.tmps[30]?.getD undef, a.tmps[31]?.getD undef, a.tmps[32]?.getD undef, a.tmps[33]?.getD undef, a.tmps[34]?.getD undef, a.tmps[35]?.getD undef, a.tmps[36]?.getD undef, a.tmps[37]?.getD undef, a.tmps[38]?.getD undef, a.tmps[39]?.getD undef, a.tmps[40]?.getD undef, a.tmps[41]?.getD undef, a.tmps[42]?.getD undef, a.tmps[43]?.getD undef, a.tmps[44]?.getD undef, a.tmps[45]?.getD undef, a.tmps[46]?.getD undef, a.tmps[47]?.getD undef, a.tmps[48]?.getD undef, a.tmps[49]?.getD undef, a.tmps[50]?.getD undef, a.tmps[51]?.getD undef, a.tmps[52]?.getD undef, a.tmps[53]?.getD undef, a.tmps[54]?.getD undef, a.tmps[55]?.getD undef, a.tmps[56]?.getD undef, a.tmps[57]?.getD undef, a.tmps[58]?.getD undef, a.tmps[59]?.getD undef, a.tmps[60]?.getD undef, a.tmps[61]?.getD undef, a.tmps[62]?.getD undef, a.tmps[63]?.getD undef, a.tmps[64]?.getD undef, a.tmps[65]?.getD undef, a.tmps[66]?.getD undef, a.tmps[67]?.getD undef, a.tmps[68]?.getD undef, a.tmps[69]?.getD undef, a.tmps[70]?.getD undef, a.tmps[71]?.getD undef, a.tmps[72]?.getD undef, a.tmps[73]?.getD undef, a.tmps[74]?.getD undef, a.tmps[75]?.getD undef, a.tmps[76]?.getD undef, a.tmps[77]?.getD undef, a.tmps[78]?.getD undef, a.tmps[79]?.getD undef, a.tmps[80]?.getD undef, a.tmps[81]?.getD undef, a.tmps[82]?.getD undef, a.tmps[83]?.getD undef, a.tmps[84]?.getD undef, a.tmps[85]?.getD undef, a.tmps[86]?.getD undef, a.tmps[87]?.getD undef, a.tmps[88]?.getD undef, a.tmps[89]?.getD undef, a.tmps[90]?.getD undef, a.tmps[91]?.getD undef, a.tmps[92]?.getD undef] at hA
        have e0 := hout 0 (fun i o _ h => outB_spec (by kernel_rfl) i o h)
        have e1 := hout 1 (fun i o _ h => outB_spec (by kernel_rfl) i o h)
        have e2 := hout 2 (fun i o _ h => outB_spec (by kernel_rfl) i o h)
        have e3 := hout 3 (fun i o _ h => outB_spec (by kernel_rfl) i o h)
        have e4 := hout 4 (fun i o _ h => outB_spec (by kernel_rfl) i o h)
        have e5 := hout 5 (fun i o _ h => outB_spec (by kernel_rfl) i o h)
        have e6 := hout 6 (fun i o _ h => outB_spec (by kernel_rfl) i o h)
        have e7 := hout 7 (fun i o _ h => outB_spec (by kernel_rfl) i o h)
        have e9 := hout 9 (fun i o _ h => outB_spec (by kernel_rfl) i o h)
        have e10 := hout 10 (fun i o _ h => outB_spec (by kernel_rfl) i o h)
        have e11 := hout 11 (fun i o _ h => outB_spec (by kernel_rfl) i o h)
        have e12 := hout 12 (fun i o _ h => outB_spec (by kernel_rfl) i o h)
        have e13 := hout 13 (fun i o _ h => outB_spec (by kernel_rfl) i o h)
        have e14 := hout 14 (fun i o _ h => outB_spec (by kernel_rfl) i o h)
        have e15 := hout 15 (fun i o _ h => outB_spec (by kernel_rfl) i o h)
        have e16 := hout 16 (fun i o _ h => outB_spec (by kernel_rfl) i o h)
        have e17 := hout 17 (fun i o _ h => outB_spec (by kernel_rfl) i o h)
        have e18 := hout 18 (fun i o _ h => outB_spec (by kernel_rfl) i o h)
        have e19 := hout 19 (fun i o _ h => outB_spec (by kernel_rfl) i o h)
        have e20 := hout 20 (fun i o _ h => outB_spec (by kernel_rfl) i o h)
        have e21 := hout 21 (fun i o _ h => outB_spec (by kernel_rfl) i o h)
        have e22 := hout 22 (fun i o _ h => outB_spec (by kernel_rfl) i o h)
        have e23 := hout 23 (fun i o _ h => outB_spec (by kernel_rfl) i o h)
        have e24 := hout 24 (fun i o _ h => outB_spec (by kernel_rfl) i o h)
        have e25 := hout 25 (fun i o _ h => outB_spec (by kernel_rfl) i o h)
        have e26 := hout 26 (fun i o _ h => outB_spec (by kernel_rfl) i o h)
        have e27 := hout 27 (fun i o _ h => outB_spec (by kernel_rfl) i o h)
        have e28 := hout 28 (fun i o _ h => outB_spec (by kernel_rfl) i o h)
        have e29 := hout 29 (fun i o _ h => outB_spec (by kernel_rfl) i o h)
        have e30 := hout 30 (fun i o _ h => outB_spec (by kernel_rfl) i o h)
        have e31 := hout 31 (fun i o _ h => outB_spec (by kernel_rfl) i o h)
        have e32 := hout 32 (fun i o _ h => outB_spec (by kernel_rfl) i o h)
        have e33 := hout 33 (fun i o _ h => outB_spec (by kernel_rfl) i o h)
        have e34 := hout 34 (fun i o _ h => outB_spec (by kernel_rfl) i o h)
        have e35 := hout 35 (fun i o _ h => outB_spec (by kernel_rfl) i o h)
        have e36 := hout 36 (fun i o _ h => outB_spec (by kernel_rfl) i o h)
        have e37 := hout 37 (fun i o _ h => outB_spec (by kernel_rfl) i o h)
        have e38 := hout 38 (fun i o _ h => outB_spec (by kernel_rfl) i o h)
        have e39 := hout 39 (fun i o _ h => outB_spec (by kernel_rfl) i o h)
        have e40 := hout 40 (fun i o _ h => outB_spec (by kernel_rfl) i o h)
        have e41 := hout 41 (fun i o _ h => outB_spec (by kernel_rfl) i o h)
        have e42 := hout 42 (fun i o _ h => outB_spec (by kernel_rfl) i o h)
        have e43 := hout 43 (fun i o _ h => outB_spec (by kernel_rfl) i o h)
        have e44 := hout 44 (fun i o _ h => outB_spec (by kernel_rfl) i o h)
        have e45 := hout 45 (fun i o _ h => outB_spec (by kernel_rfl) i o h)
        have e46 := hout 46 (fun i o _ h => outB_spec (by kernel_rfl) i o h)
        have e47 := hout 47 (fun i o _ h => outB_spec (by kernel_rfl) i o h)
        have e48 := hout 48 (fun i o _ h => outB_spec (by kernel_rfl) i o h)
        have e49 := hout 49 (fun i o _ h => outB_spec (by kernel_rfl) i o h)
        have e50 := hout 50 (fun i o _ h => outB_spec (by kernel_rfl) i o h)
        have e51 := hout 51 (fun i o _ h => outB_spec (by kernel_rfl) i o h)
        have e52 := hout 52 (fun i o _ h => outB_spec (by kernel_rfl) i o h)
        have e53 := hout 53 (fun i o _ h => outB_spec (by kernel_rfl) i o h)
        have e54 := hout 54 (fun i o _ h => outB_spec (by kernel_rfl) i o h)
        have e55 := hout 55 (fun i o _ h => outB_spec (by kernel_rfl) i o h)
        have e56 := hout 56 (fun i o _ h => outB_spec (by kernel_rfl) i o h)
        have e57 := hout 57 (fun i o _ h => outB_spec (by kernel_rfl) i o h)
        have e58 := hout 58 (fun i o _ h => outB_spec (by kernel_rfl) i o h)
        have e59 := hout 59 (fun i o _ h => outB_spec (by kernel_rfl) i o h)
        have e60 := hout 60 (fun i o _ h => outB_spec (by kernel_rfl) i o h)
        have e61 := hout 61 (fun i o _ h => outB_spec (by kernel_rfl) i o h)
        have e62 := hout 62 (fun i o _ h => outB_spec (by kernel_rfl) i o h)
        have e63 := hout 63 (fun i o _ h => outB_spec (by kernel_rfl) i o h)
        have e64 := hout 64 (fun i o _ h => outB_spec (by kernel_rfl) i o h)
        have e65 := hout 65 (fun i o _ h => outB_spec (by kernel_rfl) i o h)
        have e66 := hout 66 (fun i o _ h => outB_spec (by kernel_rfl) i o h)
        simp only [Array.getD_eq_getD_getElem?, List.getElem?_toArray, List.getElem?_cons_zero, List.getElem?_cons_succ, Option.getD_some] at e0 e1 e2 e3 e4 e5 e6 e7 e9 e10 e11 e12 e13 e14 e15 e16 e17 e18 e19 e20 e21 e22 e23 e24 e25 e26 e27 e28 e29 e30 e31 e32 e33 e34 e35 e36 e37 e38 e39 e40 e41 e42 e43 e44 e45 e46 e47 e48 e49 e50 e51 e52 e53 e54 e55 e56 e57 e58 e59 e60 e61 e62 e63 e64 e65 e66
        rw [e0, e1, e2, e3, e4, e5, e6, e7, e9, e10, e11, e12, e13, e14, e15, e16, e17, e18, e19, e20, e21, e22, e23, e24, e25, e26, e27, e28, e29, e30, e31, e32, e33, e34, e35, e36, e37, e38, e39, e40, e41, e42, e43, e44, e45, e46, e47, e48, e49, e50, e51, e52, e53, e54, e55, e56, e57, e58, e59, e60, e61, e62, e63, e64, e65, e66] at hA
        clear e0 e1 e2 e3 e4 e5 e6 e7 e9 e10 e11 e12 e13 e14 e15 e16 e17 e18 e19 e20 e21 e22 e23 e24 e25 e26 e27 e28 e29 e30 e31 e32 e33 e34 e35 e36 e37 e38 e39 e40 e41 e42 e43 e44 e45 e46 e47 e48 e49 e50 e51 e52 e53 e54 e55 e56 e57 e58 e59 e60 e61 e62 e63 e64 e65 e66 hout
        have hds2 : a.defers = [] := hdef
        have ea : a = ⟨a.tmps, a.defers⟩ := rfl
        have s92 : a.tmps[92]?.getD undef = .bool true := by simpa [Array.getD_eq_getD_getElem?] using qv
        rw [hA, hds2, s92] at ea
        clear hA hds2 s92 qv hdef
        generalize a.tmps[67]?.getD undef = y67 at ea
        generalize a.tmps[68]?.getD undef = y68 at ea
        generalize a.tmps[69]?.getD undef = y69 at ea
        generalize a.tmps[70]?.getD undef = y70 at ea
        generalize a.tmps[71]?.getD undef = y71 at ea
        generalize a.tmps[72]?.getD undef = y72 at ea
        generalize a.tmps[73]?.getD undef = y73 at ea
        generalize a.tmps[74]?.getD undef = y74 at ea
        generalize a.tmps[75]?.getD undef = y75 at ea
        generalize a.tmps[76]?.getD undef = y76 at ea
        generalize a.tmps[77]?.getD undef = y77 at ea
        generalize a.tmps[78]?.getD undef = y78 at ea
        generalize a.tmps[79]?.getD undef = y79 at ea
        generalize a.tmps[80]?.getD undef = y80 at ea
        generalize a.tmps[81]?.getD undef = y81 at ea
        generalize a.tmps[82]?.getD undef = y82 at ea
        generalize a.tmps[83]?.getD undef = y83 at ea
        generalize a.tmps[84]?.getD undef = y84 at ea
        generalize a.tmps[85]?.getD undef = y85 at ea
        generalize a.tmps[86]?.getD undef = y86 at ea
        generalize a.tmps[87]?.getD undef = y87 at ea
        generalize a.tmps[88]?.getD undef = y88 at ea
        generalize a.tmps[89]?.getD undef = y89 at ea
        generalize a.tmps[90]?.getD undef = y90 at ea
        generalize a.tmps[91]?.getD undef = y91 at ea
        generalize a.tmps[8]?.getD undef = y8 at ea
        clear hsz
        subst ea
        have bx : Below wr.heap.size wr w2 := Below.trans (Below.refl _ _).drew hx
        unfold wpOp
        simp only [List.getElem?_toArray, List.getElem?_cons_zero, List.getElem?_cons_succ]
        rw [if_pos (by rfl)]
        left
        have bw10 := bw9.trans (bx.mono bz9)
        go_simp
        go_wp2_with fail
        go_ret
        exact ⟨rfl, bw10⟩
theorem stretchScripts_law (n : Int) (v1 v2 : Value) (c : Int) (w : World) (h0 : (Lit.int .u32 n).wf = true) (h1 : ∃ l : List UInt8, l.length = 4 ∧ v1 = idV l) (h2 : ∃ l : List UInt8, l.length = 4 ∧ v2 = idV l) (h3 : (Lit.int .i64 c).wf = true) :
    Calls Try.prog 11 #[.int .u32 n, v1, v2, .int .i64 c] w fun e w' => e = .returned (.bool true) ∧ Below w.heap.size w w' := by
  obtain ⟨I, hI, rfl⟩ := h1
  obtain ⟨J, hJ, rfl⟩ := h2
  have r3 : -9223372036854775808 ≤ c ∧ c ≤ 9223372036854775807 := by simp [Lit.wf, IntKind.min, IntKind.max, IntKind.signed, IntKind.bits] at h3; omega
  have r0 : 0 ≤ n ∧ n < 4294967296 := by simp [Lit.wf, IntKind.min, IntKind.max, IntKind.signed, IntKind.bits] at h0; omega
  exact sscripts_any n r0.1 r0.2 I J hI hJ c r3 w
end Go.Proofs.Ytkneeocicbadjaa
