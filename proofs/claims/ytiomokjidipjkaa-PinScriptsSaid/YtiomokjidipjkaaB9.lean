/- the law PinScripts, walked -/
import Derived.Test.YtiomokjidipjkaaB8
import Derived.RegionTactic
import Derived.ChangeAlike
namespace Go.Proofs.Ytiomokjidipjkaa
open Go.RowKit
/-- a slice of ints that came in -/
def IntRow (w : World) (v : Value) : Prop :=
  ∃ ao n c, v = .slice ao n c ∧ n ≤ maxLen ∧ (n = 0 ∨ ∃ b off, ao = some ⟨b, off, none⟩ ∧ b < w.heap.size ∧ ∀ i, i < n → ∃ k : Int, w.cell? ⟨b, off + i, none⟩ = some (.int .i64 k))
theorem tmod_lt8 (k : Int) : -8 < k.tmod 8 ∧ k.tmod 8 < 8 := by
  have h1 := Int.tmod_lt_of_pos k (show (0 : Int) < 8 by omega)
  have h2 := Int.lt_tmod_of_pos k (show (0 : Int) < 8 by omega)
  omega
theorem sep_base (kk d : Nat) (hk : kk < 8) (hd : d ≤ 9) : ∃ (sep : List Nat) (base : Nat), (sep = [] ∨ sep = [32] ∨ sep = [45] ∨ sep = [160]) ∧ dg ((base + d : Nat) : Int) = d ∧ base + d ≤ 65305 ∧
    ((kk % 4 = 0 ∧ sep = []) ∨ (kk % 4 = 1 ∧ sep = [32]) ∨ (kk % 4 = 2 ∧ sep = [45]) ∨ (kk % 4 = 3 ∧ sep = [160])) ∧ ((kk / 2 = 0 ∧ base = 48) ∨ (kk / 2 = 1 ∧ base = 65296) ∨ (kk / 2 = 2 ∧ base = 1632) ∨ (kk / 2 = 3 ∧ base = 1776)) := by
  have h48 := dg_cases ((48 + d : Nat) : Int)
  have h65 := dg_cases ((65296 + d : Nat) : Int)
  have h16 := dg_cases ((1632 + d : Nat) : Int)
  have h17 := dg_cases ((1776 + d : Nat) : Int)
  have hk' : kk = 0 ∨ kk = 1 ∨ kk = 2 ∨ kk = 3 ∨ kk = 4 ∨ kk = 5 ∨ kk = 6 ∨ kk = 7 := by omega
  rcases hk' with rfl | rfl | rfl | rfl | rfl | rfl | rfl | rfl
  · exact ⟨[], 48, by simp, by omega, by omega, by simp, by simp⟩
  · exact ⟨[32], 48, by simp, by omega, by omega, by simp, by simp⟩
  · exact ⟨[45], 65296, by simp, by omega, by omega, by simp, by simp⟩
  · exact ⟨[160], 65296, by simp, by omega, by omega, by simp, by simp⟩
  · exact ⟨[], 1632, by simp, by omega, by omega, by simp, by simp⟩
  · exact ⟨[32], 1632, by simp, by omega, by omega, by simp, by simp⟩
  · exact ⟨[45], 1776, by simp, by omega, by omega, by simp, by simp⟩
  · exact ⟨[160], 1776, by simp, by omega, by omega, by simp, by simp⟩
/-- what one round leaves of the two texts -/
def After (ds : List Nat) (P O : ByteArray) : Prop :=
  ∃ lo, P = ⟨(encL (plainL ds)).toArray⟩ ∧ O = ⟨(encL lo).toArray⟩ ∧ (∀ r ∈ lo, okRune r) ∧ (∀ d ∈ ds, d ≤ 9) ∧ Same lo ds ∧ P.size ≤ ds.length ∧ O.size ≤ 6 * ds.length
theorem after_step (ds : List Nat) (P O : ByteArray) (h : After ds P O) (kk d : Nat) (hk : kk < 8) (hd : d ≤ 9) (S : ByteArray) (base : Int)
    (hS : (kk % 4 = 0 ∧ S = ⟨#[]⟩) ∨ (kk % 4 = 1 ∧ S = ⟨#[32]⟩) ∨ (kk % 4 = 2 ∧ S = ⟨#[45]⟩) ∨ (kk % 4 = 3 ∧ S = ⟨#[194, 160]⟩))
    (hb : (kk / 2 = 0 ∧ base = 48) ∨ (kk / 2 = 1 ∧ base = 65296) ∨ (kk / 2 = 2 ∧ base = 1632) ∨ (kk / 2 = 3 ∧ base = 1776)) :
    After (ds ++ [d]) (P ++ Utf8.encode (48 + (d : Int))) (O ++ (S ++ Utf8.encode (base + (d : Int)))) := by
  obtain ⟨lo, hP, hO, hok, hds, hsame, hz1, hz2⟩ := h
  obtain ⟨sep, bN, hsep, hdg, hle, hs2, hb2⟩ := sep_base kk d hk hd
  have hbase : base = (bN : Int) := by omega
  have hSe : S = ⟨(encL sep).toArray⟩ := by
    rcases hs2 with ⟨a, rfl⟩ | ⟨a, rfl⟩ | ⟨a, rfl⟩ | ⟨a, rfl⟩ <;> rcases hS with ⟨c, rfl⟩ | ⟨c, rfl⟩ | ⟨c, rfl⟩ | ⟨c, rfl⟩ <;> first | (exfalso; omega) | rfl
  have hSz : S.size ≤ 2 := by
    rcases hS with ⟨c, rfl⟩ | ⟨c, rfl⟩ | ⟨c, rfl⟩ | ⟨c, rfl⟩ <;> decide
  have e1 : Utf8.encode (48 + (d : Int)) = ⟨(encL [48 + d]).toArray⟩ := by
    have := encode_str (48 + d) (by omega)
    simpa using this
  have e2 : Utf8.encode (base + (d : Int)) = ⟨(encL [bN + d]).toArray⟩ := by
    have := encode_str (bN + d) (by omega)
    rw [hbase]; simpa using this
  refine ⟨lo ++ (sep ++ [bN + d]), ?_, ?_, ?_, ?_, same_step lo ds sep (bN + d) d hsame hsep hd hdg, ?_, ?_⟩
  · rw [hP, e1, str_append, ← encL_append]; simp [plainL]
  · rw [hO, hSe, e2, str_append, str_append, ← encL_append, ← encL_append]
  · intro r hr
    rcases List.mem_append.1 hr with hr | hr
    · exact hok r hr
    · rcases List.mem_append.1 hr with hr | hr
      · have : r = 32 ∨ r = 45 ∨ r = 160 := by rcases hsep with rfl | rfl | rfl | rfl <;> simp at hr <;> omega
        unfold okRune; omega
      · simp at hr; unfold okRune; omega
  · intro x hx
    rcases List.mem_append.1 hx with hx | hx
    · exact hds x hx
    · simp at hx; omega
  · have h1 : (Utf8.encode (48 + (d : Int))).size = 1 := by
      rw [e1]
      have : encL [48 + d] = Lib.encodeRune ((48 + d : Nat) : Int) := by simp [encL]
      rw [this, Lib.encodeRune, Lib.encodeRuneZ_one (by omega) (by omega)]; rfl
    rw [ByteArray.size_append, h1]; simp; omega
  · have h1 := encode_size_le (base + (d : Int))
    rw [ByteArray.size_append, ByteArray.size_append]; simp; omega
set_option maxHeartbeats 4000000 in
set_option maxRecDepth 100000 in
theorem scripts_walk (v0 v1 : Value) (w : World) (h0 : IntRow w v0) (h1 : IntRow w v1) :
    Calls Try.prog 5 #[v0, v1] w fun e w' => e = .returned (.bool true) ∧ Below w.heap.size w w' := by
  obtain ⟨a0, n, c0, rfl, hn, hr0⟩ := h0
  obtain ⟨a1, m, c1, rfl, hm, hr1⟩ := h1
  unfold maxLen at hn hm
  have HR0 := Lib.hid hr0
  have HR1 := Lib.hid hr1
  clear hr0 hr1
  go_enter Try.func5, Try.ntmps5
  go_wp2
  go_loopw [5, 6, 7, 8, 9] (fun p o i _ _ wr => ∃ (ds : List Nat) (P O : ByteArray), ds.length ≤ n ∧ ds.length ≤ 14 ∧ p = .string P ∧ o = .string O ∧ i = .int .i64 ds.length ∧ Hid (After ds P O) ∧ Below w.heap.size w wr) (fun _ _ i _ _ _ => n - (intOf i).toNat)
  case atStart => exact ⟨[], ⟨#[]⟩, ⟨#[]⟩, Nat.zero_le _, by simp, rfl, rfl, rfl, Lib.hid ⟨[], rfl, rfl, by simp, by simp, same_nil, by decide, by decide⟩, Below.refl _ _⟩
  case round =>
    obtain ⟨ds, P, O, hdn, hd14, rfl, rfl, rfl, haf, hbl⟩ := hrel
    obtain ⟨k, hk⟩ : ∃ k, k = ds.length := ⟨_, rfl⟩
    rw [← hk]
    rw [← hk] at hdn hd14
    have HK := Lib.hid hk
    clear hk
    have hPz : P.size ≤ 14 := by obtain ⟨lo, _, _, _, _, _, hz1, hz2⟩ := haf.out; have := HK.out; omega
    have hOz : O.size ≤ 84 := by obtain ⟨lo, _, _, _, _, _, hz1, hz2⟩ := haf.out; have := HK.out; omega
    by_cases hlt : k < n ∧ k < 14
    · obtain ⟨hkn, hk2⟩ := hlt
      obtain ⟨b, off, rfl, hbB, hcells⟩ := HR0.out.resolve_left (by omega)
      obtain ⟨x, hx⟩ := hcells k hkn
      have d0 : wr.cell? ⟨b, off + k, none⟩ = some (.int .i64 x) := (hbl.cell (p := ⟨b, _, none⟩) hbB).trans hx
      obtain ⟨t1, t2⟩ := tmod_lt10 x
      clear hx hcells
      have HB := Lib.hid hbB
      clear hbB
      have e1 : 0 ≤ x.tmod 10 % 10 := by omega
      have e2 : x.tmod 10 % 10 ≤ 9 := by omega
      by_cases hkm : k < m
      · obtain ⟨b1, off1, rfl, hbB1, hcells1⟩ := HR1.out.resolve_left (by omega)
        obtain ⟨y, hy⟩ := hcells1 k hkm
        have d1 : wr.cell? ⟨b1, off1 + k, none⟩ = some (.int .i64 y) := (hbl.cell (p := ⟨b1, _, none⟩) hbB1).trans hy
        obtain ⟨s1, s2⟩ := tmod_lt8 y
        clear hy hcells1 hbB1
        have hy8 : y.tmod 8 % 8 = 0 ∨ y.tmod 8 % 8 = 1 ∨ y.tmod 8 % 8 = 2 ∨ y.tmod 8 % 8 = 3 ∨ y.tmod 8 % 8 = 4 ∨ y.tmod 8 % 8 = 5 ∨ y.tmod 8 % 8 = 6 ∨ y.tmod 8 % 8 = 7 := by omega
        rcases hy8 with hy8 | hy8 | hy8 | hy8 | hy8 | hy8 | hy8 | hy8
        · have HY := Lib.hid hy8
          clear hy8
          have f1 := encode_size_le (48 + x.tmod 10 % 10)
          have f2 := encode_size_le (48 + x.tmod 10 % 10)
          have f3 : (⟨#[]⟩ : ByteArray).size ≤ 2 := by decide
          have f4 : ((⟨#[]⟩ : ByteArray) ++ Utf8.encode (48 + x.tmod 10 % 10)).size ≤ 6 := by rw [ByteArray.size_append]; omega
          go_wp2
          have HY2 : (y.tmod 8 + 8) % 8 = 0 := by have := HY.out; omega
          rw [HY2]
          clear HY2
          go_region
          all_goals go_wp2
          all_goals go_roundw
          all_goals first
            | (case rel =>
                 obtain ⟨d, hd⟩ := Int.eq_ofNat_of_zero_le e1
                 have ha := after_step ds P O haf.out 0 d (by omega) (by omega) ⟨#[]⟩ 48 (by simp) (by simp)
                 rw [← hd] at ha
                 refine ⟨ds ++ [d], _, _, by simp; have := HK.out; omega, by simp; have := HK.out; omega, rfl, ?_, ?_, Lib.hid ha, by have hz := hbl.size; repeat (first | exact hbl | refine Below.drew ?_ | refine Below.alloc ?_ (by first | omega | (simp; omega)) _)⟩
                 · first | rfl | simp
                 · simp [← HK.out])
            | (case measure => simp [intOf]; omega)
        · have HY := Lib.hid hy8
          clear hy8
          have f1 := encode_size_le (48 + x.tmod 10 % 10)
          have f2 := encode_size_le (48 + x.tmod 10 % 10)
          have f3 : (⟨#[32]⟩ : ByteArray).size ≤ 2 := by decide
          have f4 : ((⟨#[32]⟩ : ByteArray) ++ Utf8.encode (48 + x.tmod 10 % 10)).size ≤ 6 := by rw [ByteArray.size_append]; omega
          go_wp2
          have HY2 : (y.tmod 8 + 8) % 8 = 1 := by have := HY.out; omega
          rw [HY2]
          clear HY2
          go_region
          all_goals go_wp2
          all_goals go_roundw
          all_goals first
            | (case rel =>
                 obtain ⟨d, hd⟩ := Int.eq_ofNat_of_zero_le e1
                 have ha := after_step ds P O haf.out 1 d (by omega) (by omega) ⟨#[32]⟩ 48 (by simp) (by simp)
                 rw [← hd] at ha
                 refine ⟨ds ++ [d], _, _, by simp; have := HK.out; omega, by simp; have := HK.out; omega, rfl, ?_, ?_, Lib.hid ha, by have hz := hbl.size; repeat (first | exact hbl | refine Below.drew ?_ | refine Below.alloc ?_ (by first | omega | (simp; omega)) _)⟩
                 · first | rfl | simp
                 · simp [← HK.out])
            | (case measure => simp [intOf]; omega)
        · have HY := Lib.hid hy8
          clear hy8
          have f1 := encode_size_le (48 + x.tmod 10 % 10)
          have f2 := encode_size_le (65296 + x.tmod 10 % 10)
          have f3 : (⟨#[45]⟩ : ByteArray).size ≤ 2 := by decide
          have f4 : ((⟨#[45]⟩ : ByteArray) ++ Utf8.encode (65296 + x.tmod 10 % 10)).size ≤ 6 := by rw [ByteArray.size_append]; omega
          go_wp2
          have HY2 : (y.tmod 8 + 8) % 8 = 2 := by have := HY.out; omega
          rw [HY2]
          clear HY2
          go_region
          all_goals go_wp2
          all_goals go_roundw
          all_goals first
            | (case rel =>
                 obtain ⟨d, hd⟩ := Int.eq_ofNat_of_zero_le e1
                 have ha := after_step ds P O haf.out 2 d (by omega) (by omega) ⟨#[45]⟩ 65296 (by simp) (by simp)
                 rw [← hd] at ha
                 refine ⟨ds ++ [d], _, _, by simp; have := HK.out; omega, by simp; have := HK.out; omega, rfl, ?_, ?_, Lib.hid ha, by have hz := hbl.size; repeat (first | exact hbl | refine Below.drew ?_ | refine Below.alloc ?_ (by first | omega | (simp; omega)) _)⟩
                 · first | rfl | simp
                 · simp [← HK.out])
            | (case measure => simp [intOf]; omega)
        · have HY := Lib.hid hy8
          clear hy8
          have f1 := encode_size_le (48 + x.tmod 10 % 10)
          have f2 := encode_size_le (65296 + x.tmod 10 % 10)
          have f3 : (⟨#[194, 160]⟩ : ByteArray).size ≤ 2 := by decide
          have f4 : ((⟨#[194, 160]⟩ : ByteArray) ++ Utf8.encode (65296 + x.tmod 10 % 10)).size ≤ 6 := by rw [ByteArray.size_append]; omega
          go_wp2
          have HY2 : (y.tmod 8 + 8) % 8 = 3 := by have := HY.out; omega
          rw [HY2]
          clear HY2
          go_region
          all_goals go_wp2
          all_goals go_roundw
          all_goals first
            | (case rel =>
                 obtain ⟨d, hd⟩ := Int.eq_ofNat_of_zero_le e1
                 have ha := after_step ds P O haf.out 3 d (by omega) (by omega) ⟨#[194, 160]⟩ 65296 (by simp) (by simp)
                 rw [← hd] at ha
                 refine ⟨ds ++ [d], _, _, by simp; have := HK.out; omega, by simp; have := HK.out; omega, rfl, ?_, ?_, Lib.hid ha, by have hz := hbl.size; repeat (first | exact hbl | refine Below.drew ?_ | refine Below.alloc ?_ (by first | omega | (simp; omega)) _)⟩
                 · first | rfl | simp
                 · simp [← HK.out])
            | (case measure => simp [intOf]; omega)
        · have HY := Lib.hid hy8
          clear hy8
          have f1 := encode_size_le (48 + x.tmod 10 % 10)
          have f2 := encode_size_le (1632 + x.tmod 10 % 10)
          have f3 : (⟨#[]⟩ : ByteArray).size ≤ 2 := by decide
          have f4 : ((⟨#[]⟩ : ByteArray) ++ Utf8.encode (1632 + x.tmod 10 % 10)).size ≤ 6 := by rw [ByteArray.size_append]; omega
          go_wp2
          have HY2 : (y.tmod 8 + 8) % 8 = 4 := by have := HY.out; omega
          rw [HY2]
          clear HY2
          go_region
          all_goals go_wp2
          all_goals go_roundw
          all_goals first
            | (case rel =>
                 obtain ⟨d, hd⟩ := Int.eq_ofNat_of_zero_le e1
                 have ha := after_step ds P O haf.out 4 d (by omega) (by omega) ⟨#[]⟩ 1632 (by simp) (by simp)
                 rw [← hd] at ha
                 refine ⟨ds ++ [d], _, _, by simp; have := HK.out; omega, by simp; have := HK.out; omega, rfl, ?_, ?_, Lib.hid ha, by have hz := hbl.size; repeat (first | exact hbl | refine Below.drew ?_ | refine Below.alloc ?_ (by first | omega | (simp; omega)) _)⟩
                 · first | rfl | simp
                 · simp [← HK.out])
            | (case measure => simp [intOf]; omega)
        · have HY := Lib.hid hy8
          clear hy8
          have f1 := encode_size_le (48 + x.tmod 10 % 10)
          have f2 := encode_size_le (1632 + x.tmod 10 % 10)
          have f3 : (⟨#[32]⟩ : ByteArray).size ≤ 2 := by decide
          have f4 : ((⟨#[32]⟩ : ByteArray) ++ Utf8.encode (1632 + x.tmod 10 % 10)).size ≤ 6 := by rw [ByteArray.size_append]; omega
          go_wp2
          have HY2 : (y.tmod 8 + 8) % 8 = 5 := by have := HY.out; omega
          rw [HY2]
          clear HY2
          go_region
          all_goals go_wp2
          all_goals go_roundw
          all_goals first
            | (case rel =>
                 obtain ⟨d, hd⟩ := Int.eq_ofNat_of_zero_le e1
                 have ha := after_step ds P O haf.out 5 d (by omega) (by omega) ⟨#[32]⟩ 1632 (by simp) (by simp)
                 rw [← hd] at ha
                 refine ⟨ds ++ [d], _, _, by simp; have := HK.out; omega, by simp; have := HK.out; omega, rfl, ?_, ?_, Lib.hid ha, by have hz := hbl.size; repeat (first | exact hbl | refine Below.drew ?_ | refine Below.alloc ?_ (by first | omega | (simp; omega)) _)⟩
                 · first | rfl | simp
                 · simp [← HK.out])
            | (case measure => simp [intOf]; omega)
        · have HY := Lib.hid hy8
          clear hy8
          have f1 := encode_size_le (48 + x.tmod 10 % 10)
          have f2 := encode_size_le (1776 + x.tmod 10 % 10)
          have f3 : (⟨#[45]⟩ : ByteArray).size ≤ 2 := by decide
          have f4 : ((⟨#[45]⟩ : ByteArray) ++ Utf8.encode (1776 + x.tmod 10 % 10)).size ≤ 6 := by rw [ByteArray.size_append]; omega
          go_wp2
          have HY2 : (y.tmod 8 + 8) % 8 = 6 := by have := HY.out; omega
          rw [HY2]
          clear HY2
          go_region
          all_goals go_wp2
          all_goals go_roundw
          all_goals first
            | (case rel =>
                 obtain ⟨d, hd⟩ := Int.eq_ofNat_of_zero_le e1
                 have ha := after_step ds P O haf.out 6 d (by omega) (by omega) ⟨#[45]⟩ 1776 (by simp) (by simp)
                 rw [← hd] at ha
                 refine ⟨ds ++ [d], _, _, by simp; have := HK.out; omega, by simp; have := HK.out; omega, rfl, ?_, ?_, Lib.hid ha, by have hz := hbl.size; repeat (first | exact hbl | refine Below.drew ?_ | refine Below.alloc ?_ (by first | omega | (simp; omega)) _)⟩
                 · first | rfl | simp
                 · simp [← HK.out])
            | (case measure => simp [intOf]; omega)
        · have HY := Lib.hid hy8
          clear hy8
          have f1 := encode_size_le (48 + x.tmod 10 % 10)
          have f2 := encode_size_le (1776 + x.tmod 10 % 10)
          have f3 : (⟨#[194, 160]⟩ : ByteArray).size ≤ 2 := by decide
          have f4 : ((⟨#[194, 160]⟩ : ByteArray) ++ Utf8.encode (1776 + x.tmod 10 % 10)).size ≤ 6 := by rw [ByteArray.size_append]; omega
          go_wp2
          have HY2 : (y.tmod 8 + 8) % 8 = 7 := by have := HY.out; omega
          rw [HY2]
          clear HY2
          go_region
          all_goals go_wp2
          all_goals go_roundw
          all_goals first
            | (case rel =>
                 obtain ⟨d, hd⟩ := Int.eq_ofNat_of_zero_le e1
                 have ha := after_step ds P O haf.out 7 d (by omega) (by omega) ⟨#[194, 160]⟩ 1776 (by simp) (by simp)
                 rw [← hd] at ha
                 refine ⟨ds ++ [d], _, _, by simp; have := HK.out; omega, by simp; have := HK.out; omega, rfl, ?_, ?_, Lib.hid ha, by have hz := hbl.size; repeat (first | exact hbl | refine Below.drew ?_ | refine Below.alloc ?_ (by first | omega | (simp; omega)) _)⟩
                 · first | rfl | simp
                 · simp [← HK.out])
            | (case measure => simp [intOf]; omega)
      · have f1 := encode_size_le (48 + x.tmod 10 % 10)
        have f2 := encode_size_le (48 + x.tmod 10 % 10)
        have f3 : (⟨#[]⟩ : ByteArray).size ≤ 2 := by decide
        have f4 : ((⟨#[]⟩ : ByteArray) ++ Utf8.encode (48 + x.tmod 10 % 10)).size ≤ 6 := by rw [ByteArray.size_append]; omega
        go_wp2
        go_region
        all_goals go_wp2
        all_goals go_roundw
        all_goals first
          | (case rel =>
               obtain ⟨d, hd⟩ := Int.eq_ofNat_of_zero_le e1
               have ha := after_step ds P O haf.out 0 d (by omega) (by omega) ⟨#[]⟩ 48 (by simp) (by simp)
               rw [← hd] at ha
               refine ⟨ds ++ [d], _, _, by simp; have := HK.out; omega, by simp; have := HK.out; omega, rfl, ?_, ?_, Lib.hid ha, by have hz := hbl.size; repeat (first | exact hbl | refine Below.drew ?_ | refine Below.alloc ?_ (by first | omega | (simp; omega)) _)⟩
               · first | rfl | simp
               · simp [← HK.out])
          | (case measure => simp [intOf]; omega)
    · have hsame : nrmV (signs O) = nrmV (signs P) := by
        obtain ⟨lo, hP, hO, hok, hds, hs, _, _⟩ := haf.out
        have h1 : signs O = lo := by rw [hO]; exact signs_enc lo hok
        have h2 : signs P = plainL ds := by rw [hP]; exact signs_enc _ (plain_ok ds hds)
        unfold nrmV; rw [h1, h2, same_nrm lo ds hs]
      have hplain : nrmV (signs P) = if 4 ≤ k ∧ k ≤ 12 then .tuple #[.string P, .bool true] else .tuple #[.string ⟨#[]⟩, .bool false] := by
        obtain ⟨lo, hP, hO, hok, hds, hs, _, _⟩ := haf.out
        have h2 : signs P = plainL ds := by rw [hP]; exact signs_enc _ (plain_ok ds hds)
        have h3 := nrm_plain ds hds
        rw [← HK.out] at h3
        unfold nrmV
        rw [h2, h3]
        by_cases hc : 4 ≤ k ∧ k ≤ 12
        · simp only [if_pos hc]; rw [hP, plain_bytes ds hds]
        · simp only [if_neg hc]
      have hkn : (k : Int) = min (n : Int) 14 := by omega
      have HKN := Lib.hid hkn
      clear hkn
      by_cases hc : 4 ≤ k ∧ k ≤ 12
      · rw [if_pos hc] at hplain
        have r1 := fun w => (normal_any P w).mono (fun e w' h => (show e = .returned (.tuple #[.string P, .bool true]) ∧ Below w.heap.size w w' from ⟨by rw [h.1, hplain], h.2⟩))
        have r2 := fun w => (normal_any O w).mono (fun e w' h => (show e = .returned (.tuple #[.string P, .bool true]) ∧ Below w.heap.size w w' from ⟨by rw [h.1, hsame, hplain], h.2⟩))
        have R1 := Lib.hid r1
        have R2 := Lib.hid r2
        clear r1 r2 hplain hsame
        obtain ⟨c1, c2⟩ := hc
        have m1 : (4 : Int) ≤ min (n : Int) 14 := by have := HKN.out; omega
        have m2 : min (n : Int) 14 ≤ 12 := by have := HKN.out; omega
        have hnot : ¬ ((k : Int) < (n : Int)) ∨ ¬ ((k : Int) < 14) := by omega
        have hkn3 : ¬ ((k : Int) < (n : Int)) := by have := HKN.out; omega
        clear hnot hlt
        go_wp2_with fail
        refine (R1.out _).mono ?_
        rintro e w1 ⟨rfl, b1⟩
        go_wp2_with fail
        refine (R2.out _).mono ?_
        rintro e w2 ⟨rfl, b2⟩
        go_wp2_with fail
        refine (known_any _).mono ?_
        rintro e w3 ⟨rfl, b3⟩
        go_wp2
        go_ret
        exact ⟨rfl, bump (bump (bump hbl b1) b2) b3⟩
      · rw [if_neg hc] at hplain
        have r1 := fun w => (normal_any P w).mono (fun e w' h => (show e = .returned (.tuple #[.string ⟨#[]⟩, .bool false]) ∧ Below w.heap.size w w' from ⟨by rw [h.1, hplain], h.2⟩))
        have r2 := fun w => (normal_any O w).mono (fun e w' h => (show e = .returned (.tuple #[.string ⟨#[]⟩, .bool false]) ∧ Below w.heap.size w w' from ⟨by rw [h.1, hsame, hplain], h.2⟩))
        have R1 := Lib.hid r1
        have R2 := Lib.hid r2
        clear r1 r2 hplain hsame
        by_cases h4 : k < 4
        · have m1 : min (n : Int) 14 < 4 := by have := HKN.out; omega
          have hkn3 : ¬ ((k : Int) < (n : Int)) := by have := HKN.out; omega
          clear hlt hc
          go_wp2_with fail
          refine (R1.out _).mono ?_
          rintro e w1 ⟨rfl, b1⟩
          go_wp2_with fail
          refine (R2.out _).mono ?_
          rintro e w2 ⟨rfl, b2⟩
          go_wp2_with fail
          refine (known_any _).mono ?_
          rintro e w3 ⟨rfl, b3⟩
          go_wp2
          go_ret
          exact ⟨rfl, bump (bump (bump hbl b1) b2) b3⟩
        · have m1 : (4 : Int) ≤ min (n : Int) 14 := by have := HKN.out; omega
          have m2 : 12 < min (n : Int) 14 := by have := HKN.out; omega
          have m3 : decide (min (n : Int) 14 ≤ 12) = false := by simp; omega
          have k14 : ¬ ((k : Int) < 14) ∨ ¬ ((k : Int) < (n : Int)) := by omega
          by_cases hkn3 : (k : Int) < (n : Int)
          · have k15 : ¬ ((k : Int) < 14) := by omega
            clear hlt hc k14
            go_wp2_with fail
            refine (R1.out _).mono ?_
            rintro e w1 ⟨rfl, b1⟩
            go_wp2_with fail
            refine (R2.out _).mono ?_
            rintro e w2 ⟨rfl, b2⟩
            go_wp2_with fail
            refine (known_any _).mono ?_
            rintro e w3 ⟨rfl, b3⟩
            go_wp2
            go_ret
            exact ⟨rfl, bump (bump (bump hbl b1) b2) b3⟩
          · clear hlt hc k14
            go_wp2_with fail
            refine (R1.out _).mono ?_
            rintro e w1 ⟨rfl, b1⟩
            go_wp2_with fail
            refine (R2.out _).mono ?_
            rintro e w2 ⟨rfl, b2⟩
            go_wp2_with fail
            refine (known_any _).mono ?_
            rintro e w3 ⟨rfl, b3⟩
            go_wp2
            go_ret
            exact ⟨rfl, bump (bump (bump hbl b1) b2) b3⟩
end Go.Proofs.Ytiomokjidipjkaa
