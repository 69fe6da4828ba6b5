/- MBlA, MBlB, MBlC, MBlD, MBlE -/
import Derived.Test.YtopamplmpfndlaaEah
import Derived.Lib.AppendZeros
set_option maxRecDepth 100000
set_option maxHeartbeats 16000000
namespace Go.Proofs.Ytopamplmpfndlaa.Sm
open Go.RowKit
theorem rev8 (B : Nat) (x0 x1 x2 x3 x4 x5 x6 x7 : Int) (w : World) (hB : Bk w B 5 #[.int .u8 x0, .int .u8 x1, .int .u8 x2, .int .u8 x3, .int .u8 x4, .int .u8 x5, .int .u8 x6, .int .u8 x7]) :
  Calls Try.prog 122 #[.slice (some ⟨B, 0, none⟩) 8 8] w fun e w' => e = .returned (.tuple #[]) ∧ Bk w' B 5 #[.int .u8 x7, .int .u8 x6, .int .u8 x5, .int .u8 x4, .int .u8 x3, .int .u8 x2, .int .u8 x1, .int .u8 x0] ∧ w.grownBy w' (some B) := by
 have HB := Lib.hid hB
 clear hB
 have HO := Lib.hid (only_none w (some B))
 go_enter Try.func122, Try.ntmps122
 go_wp2_with fail
 refine wp_loop_rounds 5 ?_
 have k0 : w.cell? ⟨B, 0, none⟩ = some (.int .u8 x0) := HB.out.cell 0
 have f0 : w.frozen? ⟨B, 0, none⟩ = false := HB.out.fr 0
 have k7 : w.cell? ⟨B, 7, none⟩ = some (.int .u8 x7) := HB.out.cell 7
 have f7 : w.frozen? ⟨B, 7, none⟩ = false := HB.out.fr 7
 rw [rounds_succ]
 go_wp2_with fail
 go_region
 go_wp2_with fail
 generalize hw : ((w.setCell ⟨B, 0, none⟩ (.int .u8 x7)).setCell ⟨B, 7, none⟩ (.int .u8 x0)).drew = w1
 have hO : Hid (w.grownBy w1 (some B)) := by rw [← hw]; exact Lib.hid (only_draw (only_put (only_put HO.out 0 _) 7 _))
 have hB : Hid (Bk w1 B 5 #[.int .u8 x7, .int .u8 x1, .int .u8 x2, .int .u8 x3, .int .u8 x4, .int .u8 x5, .int .u8 x6, .int .u8 x0]) := by rw [← hw]; exact Lib.hid (((HB.out.put 0 _).put 7 _).draw)
 clear hw HO HB k0 k7 f0 f7
 have HO := hO
 have HB := hB
 clear hO hB
 have k1 : w1.cell? ⟨B, 1, none⟩ = some (.int .u8 x1) := HB.out.cell 1
 have f1 : w1.frozen? ⟨B, 1, none⟩ = false := HB.out.fr 1
 have k6 : w1.cell? ⟨B, 6, none⟩ = some (.int .u8 x6) := HB.out.cell 6
 have f6 : w1.frozen? ⟨B, 6, none⟩ = false := HB.out.fr 6
 rw [rounds_succ]
 go_wp2_with fail
 go_region
 go_wp2_with fail
 generalize hw : ((w1.setCell ⟨B, 1, none⟩ (.int .u8 x6)).setCell ⟨B, 6, none⟩ (.int .u8 x1)).drew = w2
 have hO : Hid (w.grownBy w2 (some B)) := by rw [← hw]; exact Lib.hid (only_draw (only_put (only_put HO.out 1 _) 6 _))
 have hB : Hid (Bk w2 B 5 #[.int .u8 x7, .int .u8 x6, .int .u8 x2, .int .u8 x3, .int .u8 x4, .int .u8 x5, .int .u8 x1, .int .u8 x0]) := by rw [← hw]; exact Lib.hid (((HB.out.put 1 _).put 6 _).draw)
 clear hw HO HB k1 k6 f1 f6
 have HO := hO
 have HB := hB
 clear hO hB
 have k2 : w2.cell? ⟨B, 2, none⟩ = some (.int .u8 x2) := HB.out.cell 2
 have f2 : w2.frozen? ⟨B, 2, none⟩ = false := HB.out.fr 2
 have k5 : w2.cell? ⟨B, 5, none⟩ = some (.int .u8 x5) := HB.out.cell 5
 have f5 : w2.frozen? ⟨B, 5, none⟩ = false := HB.out.fr 5
 rw [rounds_succ]
 go_wp2_with fail
 go_region
 go_wp2_with fail
 generalize hw : ((w2.setCell ⟨B, 2, none⟩ (.int .u8 x5)).setCell ⟨B, 5, none⟩ (.int .u8 x2)).drew = w3
 have hO : Hid (w.grownBy w3 (some B)) := by rw [← hw]; exact Lib.hid (only_draw (only_put (only_put HO.out 2 _) 5 _))
 have hB : Hid (Bk w3 B 5 #[.int .u8 x7, .int .u8 x6, .int .u8 x5, .int .u8 x3, .int .u8 x4, .int .u8 x2, .int .u8 x1, .int .u8 x0]) := by rw [← hw]; exact Lib.hid (((HB.out.put 2 _).put 5 _).draw)
 clear hw HO HB k2 k5 f2 f5
 have HO := hO
 have HB := hB
 clear hO hB
 have k3 : w3.cell? ⟨B, 3, none⟩ = some (.int .u8 x3) := HB.out.cell 3
 have f3 : w3.frozen? ⟨B, 3, none⟩ = false := HB.out.fr 3
 have k4 : w3.cell? ⟨B, 4, none⟩ = some (.int .u8 x4) := HB.out.cell 4
 have f4 : w3.frozen? ⟨B, 4, none⟩ = false := HB.out.fr 4
 rw [rounds_succ]
 go_wp2_with fail
 go_region
 go_wp2_with fail
 generalize hw : ((w3.setCell ⟨B, 3, none⟩ (.int .u8 x4)).setCell ⟨B, 4, none⟩ (.int .u8 x3)).drew = w4
 have hO : Hid (w.grownBy w4 (some B)) := by rw [← hw]; exact Lib.hid (only_draw (only_put (only_put HO.out 3 _) 4 _))
 have hB : Hid (Bk w4 B 5 #[.int .u8 x7, .int .u8 x6, .int .u8 x5, .int .u8 x4, .int .u8 x3, .int .u8 x2, .int .u8 x1, .int .u8 x0]) := by rw [← hw]; exact Lib.hid (((HB.out.put 3 _).put 4 _).draw)
 clear hw HO HB k3 k4 f3 f4
 have HO := hO
 have HB := hB
 clear hO hB
 rw [rounds_succ]
 go_wp2_with fail
 go_end0
 exact ⟨rfl, HB.out, HO.out⟩
def numC (n : Int) : Array Value := #[.int .u8 (n / 72057594037927936 % 256), .int .u8 (n / 281474976710656 % 256), .int .u8 (n / 1099511627776 % 256), .int .u8 (n / 4294967296 % 256), .int .u8 (n / 16777216 % 256), .int .u8 (n / 65536 % 256), .int .u8 (n / 256 % 256), .int .u8 (n % 256)]
theorem number_any (n : Int) (h0 : 0 ≤ n) (h1 : n < 18446744073709551616) (w : World) :
  Calls Try.prog 77 #[.int .u64 n] w fun e w' => e = .returned (.slice (some ⟨w.heap.size, 0, none⟩) 8 8) ∧ Bk w' w.heap.size 5 (numC n) ∧ Below w.heap.size w w' := by
 have L := Lib.hid (lowest_any n h0 h1)
 go_enter Try.func77, Try.ntmps77
 go_wp2_with fail
 refine (L.out _).mono ?_
 rintro e w1 ⟨rfl, rfl⟩
 have R := Lib.hid (rev8 w.heap.size _ _ _ _ _ _ _ _ _ (Bk.new (w := w) rfl 5 (lowC n)))
 have b1 := (Below.refl w.heap.size w).alloc (Nat.le_refl _) (.cells (lowC n) 5)
 have bl : w.heap.size ≤ (w.alloc (.cells (lowC n) 5)).heap.size := by simp
 generalize w.alloc (.cells (lowC n) 5) = w1 at R b1 bl ⊢
 clear L
 go_wp2_with fail
 refine R.out.mono ?_
 rintro e w2 ⟨rfl, h2, o2⟩
 have h2 := Lib.hid h2
 have b2 := below_only b1 o2 (Nat.le_refl _) bl
 clear R o2
 go_wp2_with fail
 go_ret
 exact ⟨rfl, h2.out, b2⟩
theorem rnumber_any (n : Int) (h0 : 0 ≤ n) (h1 : n < 18446744073709551616) (w : World) :
  Calls Try.prog 59 #[.int .u64 n] w fun e w' => e = .returned (.slice (some ⟨w.heap.size, 0, none⟩) 8 8) ∧ Bk w' w.heap.size 5 (numC n) ∧ Below w.heap.size w w' := by
 have hmk : ∀ w : World, (Instr.makeSlice 23 (.int .i64 8) (.int .i64 8)).run Try.prog w = .ok (.slice (some ⟨w.heap.size, 0, none⟩) 8 8) (w.alloc (.cells #[.int .u8 0, .int .u8 0, .int .u8 0, .int .u8 0, .int .u8 0, .int .u8 0, .int .u8 0, .int .u8 0] 5)) := fun _ => by kernel_rfl
 go_enter Try.func59, Try.ntmps59
 go_wp2_with fail
 refine wp_loop_rounds 9 ?_
 rw [rounds_succ]
 go_wp2_with fail
 rw [rounds_succ]
 go_wp2_with fail
 rw [rounds_succ]
 go_wp2_with fail
 rw [rounds_succ]
 go_wp2_with fail
 rw [rounds_succ]
 go_wp2_with fail
 rw [rounds_succ]
 go_wp2_with fail
 rw [rounds_succ]
 go_wp2_with fail
 rw [rounds_succ]
 go_wp2_with fail
 rw [rounds_succ]
 go_wp2_with fail
 go_ret
 refine ⟨rfl, ?_, (Below.refl _ _).alloc (Nat.le_refl _) _⟩
 refine Eq.trans (Bk.new rfl _ _) ?_
 unfold numC
 congr 3
 have e0 : n / 256 / 256 = n / 65536 := by omega
 have e1 : n / 256 / 256 / 256 = n / 16777216 := by omega
 have e2 : n / 256 / 256 / 256 / 256 = n / 4294967296 := by omega
 have e3 : n / 256 / 256 / 256 / 256 / 256 = n / 1099511627776 := by omega
 have e4 : n / 256 / 256 / 256 / 256 / 256 / 256 = n / 281474976710656 := by omega
 have e5 : n / 256 / 256 / 256 / 256 / 256 / 256 / 256 = n / 72057594037927936 := by omega
 have e9 : n / 72057594037927936 % 256 = n / 72057594037927936 := by omega
 rw [e5, e4, e3, e2, e1, e0, e9]
end Go.Proofs.Ytopamplmpfndlaa.Sm
namespace Go.Proofs.Ytopamplmpfndlaa.Sm
open Go.RowKit
def ownU (w : World) (B : Nat) (v : Value) (l : List UInt8) : Prop := w.ownsRow B 5 1 v l.length (Lib.byteCells l)
def GrowPost (w : World) (e : Ending) (w' : World) : Prop := ∃ v, e = .returned v ∧ w'.ownsRow w.heap.size 5 1 v 0 [] ∧ Below w.heap.size w w'
theorem grow_any (n : Nat) (hn : n ≤ 100000000000000) (w : World) :
  Calls Try.prog 121 #[.slice none 0 0, .int .i64 n] w (GrowPost w) := by
 by_cases h0 : n = 0
 ·subst h0
  go_enter Try.func121, Try.ntmps121
  go_wp2_with fail
  go_ret
  exact ⟨_, rfl, World.ownsRow_nil _ _ _ _, Below.refl _ _⟩
 obtain ⟨i0, hi0, hz0, hz1, hz2⟩ := info_parts sm_u8
 have hr := fun W ty => Lib.run_append_nil_zeros (P := Try.prog) W 23 3 ty 5 i0 (.int .u8 0) .i64 .i64 Try.underlying23 Try.underlying3 hi0 hz0 n (by omega) (by omega) (by omega) (by rw [hz2]; omega)
 have hG := fun W : World => grownCap_ge W n 0 5
 have hGm := fun W : World => grownCap_le_maxLen W n 0 5 (by unfold maxLen; omega)
 have HR := Lib.hid hr
 have n0 : (0 : Int) < (n : Int) := by omega
 clear hr hi0 hz0 hz1 hz2
 have g1 := hG w
 have g2 := hGm w
 obtain ⟨G, hGe⟩ : ∃ G, G = grownCap w n 0 5 := ⟨_, rfl⟩
 have h := fun ty => HR.out w ty
 rw [← hGe] at g1 g2 h
 have HR := Lib.hid h
 clear h hG hGm hGe
 unfold maxLen at g2
 go_enter Try.func121, Try.ntmps121
 go_wp2_with (at_builtin; refine Lib.wpList_append_run _ rfl (.tmp 20) (.tmp 21) 23 3 rfl _ _ rfl rfl _ _ (HR.out _) ?_)
 go_ret
 refine ⟨_, rfl, ?_, ((Below.refl _ _).drew).alloc (by exact Nat.le_refl _) _⟩
 have hs : (Builtin.zeroCells (Value.int .u8 0).cells n ++ Builtin.zeroCells (Value.int .u8 0).cells (G - n)).size = G * 1 := by
  rw [Array.size_append, size_zeroCells, size_zeroCells]
  show n * 1 + (G - n) * 1 = G * 1
  omega
 exact ⟨rfl, .inr ⟨w.heap.size, G, _, rfl, Nat.le_refl _, heap_alloc_new _ _, by omega, g2, hs, by simp⟩⟩
end Go.Proofs.Ytopamplmpfndlaa.Sm
namespace Go.Proofs.Ytopamplmpfndlaa.Sm
open Go.RowKit
structure Pt where
 ad : Option Addr
 cap : Nat
 l : List UInt8
def Pt.V (p : Pt) : Value := .slice p.ad p.l.length p.cap
structure Pt.In (p : Pt) (w : World) (B : Nat) : Prop where
 cap : p.l.length ≤ p.cap
 nil : p.ad = none → p.cap = 0
 read : 0 < p.l.length → ∃ a o, p.ad = some ⟨a, o, none⟩ ∧ a < B ∧ ∀ i, i < p.l.length → w.cell? ⟨a, o + i, none⟩ = some (.int .u8 (p.l.getD i 0).toNat)
theorem Pt.In.keep {p : Pt} {w w' : World} {B : Nat} (h : p.In w B) (k : Below B w w') : p.In w' B :=
 ⟨h.cap, h.nil, fun h0 => by
  obtain ⟨a, o, e, hB, hc⟩ := h.read h0
  exact ⟨a, o, e, hB, fun i hi => (k.cell (p := ⟨a, _, none⟩) hB).trans (hc i hi)⟩⟩
theorem Pt.In.more {p : Pt} {w : World} {B B' : Nat} (h : p.In w B) (k : B ≤ B') : p.In w B' :=
 ⟨h.cap, h.nil, fun h0 => by
  obtain ⟨a, o, e, hB, hc⟩ := h.read h0
  exact ⟨a, o, e, by omega, hc⟩⟩
theorem Pt.In.cells {p : Pt} {w : World} {B : Nat} (h : p.In w B) : 0 < p.l.length → ∃ ad, p.ad = some ad ∧ ∀ j u, (Lib.byteCells p.l)[j]? = some u → w.cell? (ad.add j) = some u := by
 intro h0
 obtain ⟨a, o, e, _, hc⟩ := h.read h0
 refine ⟨_, e, fun j u hu => ?_⟩
 have hj : j < p.l.length := by have := (List.getElem?_eq_some_iff.1 hu).1; simpa [Lib.byteCells] using this
 rw [Addr.add_mid, hc j hj, ← hu]
 simp [Lib.byteCells, hj]
def flatL (ps : List Pt) (i : Nat) : List UInt8 := ((ps.take i).map (·.l)).flatten
theorem flatL_succ (ps : List Pt) (i : Nat) (p : Pt) (h : ps[i]? = some p) : flatL ps (i + 1) = flatL ps i ++ p.l := by
 unfold flatL
 have e : ps.take (i + 1) = ps.take i ++ [p] := by
  rw [List.take_add_one, h]; rfl
 rw [e]; simp
theorem flatL_le (ps : List Pt) (N : Nat) (h : (flatL ps ps.length).length ≤ N) (i : Nat) : (flatL ps i).length ≤ N := by
 refine Nat.le_trans ?_ h
 have e : flatL ps ps.length = flatL ps i ++ ((ps.drop i).map (·.l)).flatten := by
  unfold flatL
  rw [List.take_length, ← List.flatten_append, ← List.map_append, List.take_append_drop]
 rw [e]; simp
def ConcatPost (L : List UInt8) (w : World) (e : Ending) (w' : World) : Prop := ∃ v, e = .returned v ∧ ownU w' w.heap.size v L ∧ Below w.heap.size w w'
theorem concat_any (ps : List Pt) (P c : Nat) (w : World) (hP : P < w.heap.size) (hp : ∀ i p, ps[i]? = some p → w.cell? ⟨P, i, none⟩ = some p.V ∧ p.In w w.heap.size)
  (hN : (flatL ps ps.length).length ≤ 100000000000000) (hk : ps.length ≤ 1000) :
  Calls Try.prog 76 #[.slice (some ⟨P, 0, none⟩) ps.length c] w (ConcatPost (flatL ps ps.length) w) := by
 have HP := Lib.hid hp
 have HL := Lib.hid (flatL_le ps _ hN)
 obtain ⟨k, hk'⟩ : ∃ k, k = ps.length := ⟨_, rfl⟩
 rw [← hk'] at hN hk ⊢
 have HK := Lib.hid hk'
 clear hp hk'
 go_enter Try.func76, Try.ntmps76
 go_wp2_with fail
 go_loop [3, 11] (fun t i => ∃ j : Nat, j ≤ k ∧ i = .int .i64 j ∧ t = .int .i64 ((flatL ps j).length : Nat)) (fun _ i => k - (intOf i).toNat)
 case atStart => exact ⟨0, by omega, rfl, rfl⟩
 obtain ⟨j, hj, rfl, rfl⟩ := hrel
 by_cases hlt : j < k
 ·obtain ⟨p, hpj⟩ : ∃ p, ps[j]? = some p := ⟨_, List.getElem?_eq_getElem (by rw [← HK.out]; exact hlt)⟩
  have c0 := (HP.out j p hpj).1
  unfold Pt.V at c0
  have hs := flatL_succ ps j p hpj
  have hl := HL.out (j + 1)
  have hs' : (flatL ps (j + 1)).length = (flatL ps j).length + p.l.length := by rw [hs]; simp
  rw [hs'] at hl
  have HS := Lib.hid hs'
  have q0 : (0 : Int) ≤ (j : Int) := by omega
  have q1 : (j : Int) < (k : Int) := by omega
  clear hs hs' hpj
  obtain ⟨t, ht⟩ : ∃ t, t = (flatL ps j).length := ⟨_, rfl⟩
  rw [← ht] at hl ⊢
  have HT := Lib.hid ht
  clear ht
  have q2 : ¬ ((t : Int) + (p.l.length : Int) < 0) := by omega
  go_wp2_with fail
  go_round
  case rel => exact ⟨j + 1, by omega, by go_num, by rw [HS.out, ← HT.out]; go_num⟩
  case measure => simp [intOf]; omega
 obtain rfl : j = k := by omega
 have hl := HL.out j
 have G := Lib.hid (grow_any (flatL ps j).length hl w)
 go_wp2_with fail
 refine G.out.mono ?_
 rintro e w1 ⟨v1, rfl, own1, b1⟩
 have own1 := Lib.hid own1
 clear G
 go_wp2_with fail
 go_loopw [6, 27] (fun v i wx => ∃ q : Nat, q ≤ j ∧ i = .int .i64 q ∧ Hid (ownU wx w.heap.size v (flatL ps q)) ∧ Below w.heap.size w wx) (fun _ i _ => j - (intOf i).toNat)
 case atStart => exact ⟨0, by omega, rfl, own1, b1⟩
 clear own1 b1
 obtain ⟨q, hq, rfl, own, bw⟩ := hrel
 have hz := bw.size
 by_cases hlt : q < j
 rotate_left
 ·obtain rfl : q = j := by omega
  go_wp2_with fail
  go_ret
  exact ⟨_, rfl, own.out, bw⟩
 obtain ⟨p, hpj⟩ : ∃ p, ps[q]? = some p := ⟨_, List.getElem?_eq_getElem (by rw [← HK.out]; exact hlt)⟩
 have hin := (HP.out q p hpj).2.keep bw
 have c0 : wr.cell? ⟨P, q, none⟩ = some p.V := (bw.cell (p := ⟨P, q, none⟩) hP).trans (HP.out q p hpj).1
 unfold Pt.V at c0
 have hs := flatL_succ ps q p hpj
 have hl2 := HL.out (q + 1)
 rw [hs] at hl2
 have hl3 : (flatL ps q).length + p.l.length ≤ 100000000000000 := by simpa using hl2
 have HS := Lib.hid hs
 have HIN := Lib.hid hin
 have q0 : (0 : Int) ≤ (q : Int) := by omega
 have q1 : (q : Int) < (j : Int) := by omega
 clear hs hpj hl2 hin
 go_wp2_with (at_builtin; refine sm_append rfl (.tmp 31) (.tmp 32) rfl w.heap.size _ (flatL ps q).length _ rfl own.out p.ad p.l.length p.cap p.l rfl ?_ rfl ?_ ?_ ?_ ?_; (focus (exact HIN.out.nil)); (focus (exact HIN.out.cells)); (focus omega); (focus omega); intro v3 w3 hown3 hg3; have HO3 := Lib.hid hown3; have HG3 := Lib.hid hg3; clear hown3 hg3)
 have E1 : Hid (ownU w3 w.heap.size v3 (flatL ps (q + 1))) := by
  have h := HO3.out
  rw [← byteCells_app] at h
  rw [HS.out]
  unfold ownU
  rw [List.length_append]
  exact Lib.hid h
 have bw3 : Below w.heap.size w w3 := bw.grown HG3.out hz (fun x hx => (own.out.lt x hx).1)
 clear HO3 HG3 own
 go_roundw
 case rel => exact ⟨q + 1, by omega, by go_num, E1, bw3⟩
 case measure => simp [intOf]; omega
end Go.Proofs.Ytopamplmpfndlaa.Sm
namespace Go.Proofs.Ytopamplmpfndlaa.Sm
open Go.RowKit
theorem sum_pt (p : Pt) (w : World) (h : p.In w w.heap.size) (hm : p.l.length < 140737488351233) :
  Calls Try.prog 69 #[p.V] w fun e w' => e = .returned (digV (sumL p.l)) ∧ Below w.heap.size w w' := by
 by_cases h0 : 0 < p.l.length
 ·obtain ⟨a, o, e, hB, hc⟩ := h.read h0
  exact sum_core p.l p.ad a o p.cap h.cap (by omega) w (fun _ => e) hB hc
 exact sum_core0 p.l p.ad 0 0 p.cap h.cap (by omega) w (fun h1 => absurd h1 h0) (fun h1 => absurd h1 h0) (fun i hi => absurd hi (by omega))
theorem rsum_pt (p : Pt) (w : World) (h : p.In w w.heap.size) (hm : p.l.length < 140737488351233) :
  Calls Try.prog 70 #[p.V] w fun e w' => e = .returned (digV (sumL p.l)) ∧ Below w.heap.size w w' := by
 by_cases h0 : 0 < p.l.length
 ·obtain ⟨a, o, e, hB, hc⟩ := h.read h0
  exact rsum_core p.l p.ad a o p.cap h.cap h.nil hm w (fun _ => e) hB hc
 exact rsum_core0 p.l p.ad 0 0 p.cap h.cap h.nil hm w (fun h1 => absurd h1 h0) (fun h1 => absurd h1 h0) (fun i hi => absurd hi (by omega))
theorem own_pt {w : World} {B : Nat} {v : Value} {l : List UInt8} (h : ownU w B v l) : ∃ p : Pt, v = p.V ∧ p.l = l ∧ p.In w w.heap.size ∧ v.ownBlock = p.V.ownBlock := by
 have h' := h
 obtain ⟨h1, h2 | ⟨g, cap, cur, rfl, hb, hh, hc, hm, hs, ht⟩⟩ := h
 ·refine ⟨⟨none, 0, l⟩, ?_, rfl, ⟨?_, fun _ => rfl, ?_⟩, ?_⟩
  ·unfold Pt.V; simp only; rw [h2.2]; exact h2.1
  ·simp only; rw [h2.2]; exact Nat.le_refl 0
  ·intro h0; simp only at h0; omega
  unfold Pt.V; rw [h2.1]; rfl
 refine ⟨⟨some ⟨g, 0, none⟩, cap, l⟩, rfl, rfl, ⟨hc, (fun h => by cases h), fun _ => ⟨g, 0, rfl, (h'.lt g rfl).2, fun i hi => ?_⟩⟩, rfl⟩
 simp only at hi
 have h3 := World.ownsRow.cellAt h' i (by omega)
 rw [Nat.zero_add, h3]
 simp [Lib.byteCells, hi]
theorem bk_pt {w : World} {g : Nat} {t : TypeId} {l : List UInt8} (h : Bk w g t (Lib.byteCells l).toArray) : (Pt.mk (some ⟨g, 0, none⟩) l.length l).In w w.heap.size :=
 ⟨Nat.le_refl _, (fun h => by cases h), fun _ => ⟨g, 0, rfl, h.lt, fun i hi => by rw [h.cell, Nat.zero_add]; simp [Lib.byteCells]; simp at hi; simp [hi]⟩⟩
theorem keyed_any (kl : List UInt8) (hk : kl.length = 16) (p : Pt) (w : World) (hp : p.In w w.heap.size) (hm : p.l.length ≤ 90000000000000) :
  Calls Try.prog 71 #[digV kl, p.V] w fun e w' => e = .returned (digV (sumL (kl ++ p.l))) ∧ Below w.heap.size w w' := by
 obtain ⟨cs, hcs⟩ : ∃ cs, cs = Lib.byteCells kl := ⟨_, rfl⟩
 have hv : digV kl = .agg cs.toArray := by rw [hcs]; rfl
 have hcl : cs.toArray.size = 16 := by rw [hcs]; simp [Lib.byteCells, hk]
 obtain ⟨ds, hds⟩ : ∃ ds, ds = Lib.byteCells (sumL (kl ++ p.l)) := ⟨_, rfl⟩
 have hval : digV (sumL (kl ++ p.l)) = .agg ds.toArray := by rw [hds]; rfl
 have hdl : ds.length = 16 := by rw [hds]; rfl
 have HO := Lib.hid (show ds.toArray.all (·.oneCell') = true by rw [hds]; exact bytes_one _)
 have HV := Lib.hid hval
 have HDL := Lib.hid hdl
 have hi3 := Lib.hid (show (Try.prog.info? 36).map (·.size) = some ds.toArray.size by rw [sm_dsize]; simp [hdl])
 have hi4 := Lib.hid (show (Try.prog.info? 36).map (·.size) = some ds.length by rw [sm_dsize, hdl])
 obtain ⟨dd, hd⟩ : ∃ d, Try.prog.underlying 36 = some d ∧ d.isRow = true := ⟨_, Try.underlying36, rfl⟩
 have HD := Lib.hid hd
 clear hds hval hdl hd
 have K0 := Lib.hid (show Bk (w.alloc (.cells cs.toArray 36)) w.heap.size 36 (Lib.byteCells kl).toArray by rw [hcs]; exact Bk.new rfl _ _)
 have HPV := Lib.hid (show p.V = .slice p.ad p.l.length p.cap from rfl)
 have HP := Lib.hid hp
 have HK := Lib.hid hk
 rw [hv, show p.V = .slice p.ad p.l.length p.cap from rfl]
 clear hv hcs hp hk
 go_enter Try.func71, Try.ntmps71
 go_wp2_with fail
 have D0 := Lib.hid (Bk.new (w := w.alloc (.cells cs.toArray 36)) (g := w.heap.size + 1) (by simp) 36 zero16)
 have b0 : Below w.heap.size w ((w.alloc (.cells cs.toArray 36)).alloc (.cells zero16 36)) := ((Below.refl _ _).alloc (Nat.le_refl _) _).alloc (by simp) _
 have K1 := Lib.hid (K0.out.more (.cells zero16 36))
 have z0 : ((w.alloc (.cells cs.toArray 36)).alloc (.cells zero16 36)).heap.size = w.heap.size + 2 := by simp
 have BP := Lib.hid (Bk.new (w := (w.alloc (.cells cs.toArray 36)).alloc (.cells zero16 36)) (g := w.heap.size + 2) (by simp) 23 #[.slice (some ⟨w.heap.size, 0, none⟩) 16 16, .slice p.ad p.l.length p.cap])
 have D1 := Lib.hid (D0.out.more (.cells #[.slice (some ⟨w.heap.size, 0, none⟩) 16 16, .slice p.ad p.l.length p.cap] 23))
 have K2 := Lib.hid (K1.out.more (.cells #[.slice (some ⟨w.heap.size, 0, none⟩) 16 16, .slice p.ad p.l.length p.cap] 23))
 have b1 := b0.alloc (by simp; omega) (.cells #[.slice (some ⟨w.heap.size, 0, none⟩) 16 16, .slice p.ad p.l.length p.cap] 23)
 change Calls Try.prog _ _ ((((w.alloc (.cells cs.toArray 36)).alloc (.cells zero16 36)).alloc (.cells #[.slice (some ⟨w.heap.size, 0, none⟩) 16 16, .slice p.ad p.l.length p.cap] 23))) _
 have z2 : (((w.alloc (.cells cs.toArray 36)).alloc (.cells zero16 36)).alloc (.cells #[.slice (some ⟨w.heap.size, 0, none⟩) 16 16, .slice p.ad p.l.length p.cap] 23)).heap.size = w.heap.size + 3 := by simp
 clear D0 K0 K1 b0 z0
 generalize (((w.alloc (.cells cs.toArray 36)).alloc (.cells zero16 36)).alloc (.cells #[.slice (some ⟨w.heap.size, 0, none⟩) 16 16, .slice p.ad p.l.length p.cap] 23)) = w2 at BP D1 K2 b1 z2 ⊢
 have z2' : w.heap.size + 3 ≤ w2.heap.size := by omega
 have C := Lib.hid (concat_any [⟨some ⟨w.heap.size, 0, none⟩, 16, kl⟩, p] (w.heap.size + 2) 2 w2 (by omega) (by
  intro i q hq
  match i, hq with
  | 0, hq =>
   obtain rfl : _ = q := by simpa using hq
   refine ⟨?_, ?_⟩
   ·rw [BP.out.cell]; unfold Pt.V; simp only [HK.out]; rfl
   ·have h := bk_pt K2.out
    rw [HK.out] at h
    exact h
  | 1, hq =>
   obtain rfl : p = q := by simpa using hq
   exact ⟨by rw [BP.out.cell]; rfl, (HP.out.keep b1).more (by omega)⟩
  | i + 2, hq => simp at hq) (by simp [flatL, HK.out]; omega) (by simp))
 have eL : flatL [⟨some ⟨w.heap.size, 0, none⟩, 16, kl⟩, p] 2 = kl ++ p.l := by simp [flatL]
 have C : Hid (Calls Try.prog 76 #[.slice (some ⟨w.heap.size + 2, 0, none⟩) 2 2] w2 (ConcatPost (kl ++ p.l) w2)) := by rw [← eL]; exact C
 clear eL z2
 refine C.out.mono ?_
 rintro e w3 ⟨v, rfl, hown, b3⟩
 have D3 := Lib.hid (D1.out.under b3 D1.out.lt)
 have bw3 : Below w.heap.size w w3 := b1.trans (b3.mono (by omega))
 obtain ⟨q, rfl, hql, hqi, _⟩ := own_pt hown
 have z3 := bw3.size
 have G := sum_pt q w3 hqi (by rw [hql, List.length_append, HK.out]; omega)
 rw [hql, HV.out] at G
 have G := Lib.hid G
 clear C hown hql hqi D1 K2 BP b3 b1
 go_wp2_with fail
 refine G.out.mono ?_
 rintro e w4 ⟨rfl, b4⟩
 have bw4 := bw3.trans (b4.mono z3)
 have D4 := Lib.hid (D3.out.under b4 D3.out.lt)
 have TH := Lib.hid (show w4.there (w.heap.size + 1) 0 ds.toArray.size by rw [show ds.toArray.size = 16 by simp [HDL.out]]; exact D4.out.there 16 rfl)
 clear D4 D3 G b4
 go_wp2_with ((with_reducible refine sm_at_store ?_ ?_); (focus go_simp); (refine fun K hK => wp_store_mid 36 _ _ rfl (w.heap.size + 1) 0 ds.toArray rfl rfl TH.out hi3.out HO.out (hK _ _ ?_)))
 rw [HV.out]
 exact bodyPost_ret (sm_results_cell rfl _ _ _ (w.heap.size + 1) 0 rfl ds dd (World.rangeAt_setCells_same _ _ _ _ (by simpa using TH.out)) HD.out.1 HD.out.2 hi4.out) rfl ⟨rfl, sm_below_setCells _ _ _ (by omega) bw4⟩
end Go.Proofs.Ytopamplmpfndlaa.Sm
namespace Go.Proofs.Ytopamplmpfndlaa.Sm
open Go.RowKit
theorem cons_of (n : Nat) (l : List UInt8) (h : l.length = n + 1) : ∃ x m, l = x :: m ∧ m.length = n := by
 cases l with
 | nil => cases h
 | cons x m => exact ⟨x, m, rfl, by simpa using h⟩
theorem len16 (l : List UInt8) (h : l.length = 16) : ∃ x0 x1 x2 x3 x4 x5 x6 x7 x8 x9 x10 x11 x12 x13 x14 x15 : UInt8, l = [x0, x1, x2, x3, x4, x5, x6, x7, x8, x9, x10, x11, x12, x13, x14, x15] := by
 obtain ⟨x0, l0, rfl, h0⟩ := cons_of 15 l h
 obtain ⟨x1, l1, rfl, h1⟩ := cons_of 14 l0 h0
 obtain ⟨x2, l2, rfl, h2⟩ := cons_of 13 l1 h1
 obtain ⟨x3, l3, rfl, h3⟩ := cons_of 12 l2 h2
 obtain ⟨x4, l4, rfl, h4⟩ := cons_of 11 l3 h3
 obtain ⟨x5, l5, rfl, h5⟩ := cons_of 10 l4 h4
 obtain ⟨x6, l6, rfl, h6⟩ := cons_of 9 l5 h5
 obtain ⟨x7, l7, rfl, h7⟩ := cons_of 8 l6 h6
 obtain ⟨x8, l8, rfl, h8⟩ := cons_of 7 l7 h7
 obtain ⟨x9, l9, rfl, h9⟩ := cons_of 6 l8 h8
 obtain ⟨x10, l10, rfl, h10⟩ := cons_of 5 l9 h9
 obtain ⟨x11, l11, rfl, h11⟩ := cons_of 4 l10 h10
 obtain ⟨x12, l12, rfl, h12⟩ := cons_of 3 l11 h11
 obtain ⟨x13, l13, rfl, h13⟩ := cons_of 2 l12 h12
 obtain ⟨x14, l14, rfl, h14⟩ := cons_of 1 l13 h13
 obtain ⟨x15, l15, rfl, h15⟩ := cons_of 0 l14 h14
 obtain rfl : l15 = [] := List.eq_nil_of_length_eq_zero h15
 exact ⟨_, _, _, _, _, _, _, _, _, _, _, _, _, _, _, _, rfl⟩
theorem sumL_len (l : List UInt8) : (sumL l).length = 16 := rfl
theorem still_load_mid {P : Program} {o : Oper} {a : Act} {w : World} {K : Act → Prop} (ty : TypeId) (x : Operand) (ho : o.op = .load ty x) (b off : Nat) (ha : a.eval x = .pointer (some ⟨b, off, none⟩))
  (cs : List Value) (d : TypeDesc) (hc : w.rangeAt b off cs) (hu : P.underlying ty = some d) (hd : d.isRow = true) (hi : (P.info? ty).map (·.size) = some cs.length) (hk : K (a.put o.dst (.agg cs.toArray))) : o.still P a w K := by
 unfold Oper.still execOp
 simp only [ho]
 simp only [Sem.run_bind, ha]
 rw [run_loadAt_mid w b off ty cs d hc hu hd hi]
 exact ⟨rfl, hk⟩
theorem rk_in {p : Pt} {w wa wb w1 : World} (h : p.In w w.heap.size) {v : Value} (hg : wb.grownBy w1 v.ownBlock) (h1 : Below w.heap.size w wa) (h2 : Below (w.heap.size + 1) wa wb) (hv : v.ownBlock = some (w.heap.size + 1 + 1)) :
  0 < p.l.length → ∃ ad, p.ad = some ad ∧ ∀ j u, (Lib.byteCells p.l)[j]? = some u → w1.cell? (ad.add j) = some u := by
 have b2 : Below w.heap.size w wb := h1.trans (h2.mono (by omega))
 have b3 : Below w.heap.size w w1 := b2.grown hg b2.size (fun k hk => by rw [hv] at hk; injection hk with hk; omega)
 exact (h.keep b3).cells
theorem rk_sz {wb w1 : World} {row : Option Nat} {n : Nat} (hg : ((wb.alloc (.cells (#[] : Array Value) 5))).grownBy w1 row) (hn : n ≤ wb.heap.size + 1) : n ≤ w1.heap.size := by
 have := hg.size; simp at this; omega
theorem rkeyed_any (kl : List UInt8) (hk : kl.length = 16) (p : Pt) (w : World) (hp : p.In w w.heap.size) (hm : p.l.length ≤ 90000000000000) :
  Calls Try.prog 73 #[digV kl, p.V] w fun e w' => e = .returned (digV (sumL (kl ++ p.l))) ∧ Below w.heap.size w w' := by
 obtain ⟨cs, hcs⟩ : ∃ cs, cs = Lib.byteCells kl := ⟨_, rfl⟩
 have hv : digV kl = .agg cs.toArray := by rw [hcs]; rfl
 have hcl : cs.toArray.size = 16 := by rw [hcs]; simp [Lib.byteCells, hk]
 obtain ⟨ds, hds⟩ : ∃ ds, ds = Lib.byteCells (sumL (kl ++ p.l)) := ⟨_, rfl⟩
 have hval : digV (sumL (kl ++ p.l)) = .agg ds.toArray := by rw [hds]; rfl
 have hdl : ds.length = 16 := by rw [hds]; rfl
 have HO := Lib.hid (show ds.toArray.all (·.oneCell') = true by rw [hds]; exact bytes_one _)
 have HV := Lib.hid hval
 have HDL := Lib.hid hdl
 have hi3 := Lib.hid (show (Try.prog.info? 36).map (·.size) = some ds.toArray.size by rw [sm_dsize]; simp [hdl])
 have hi4 := Lib.hid (show (Try.prog.info? 36).map (·.size) = some ds.length by rw [sm_dsize, hdl])
 obtain ⟨dd, hd⟩ : ∃ d, Try.prog.underlying 36 = some d ∧ d.isRow = true := ⟨_, Try.underlying36, rfl⟩
 have HD := Lib.hid hd
 clear hds hval hdl hd
 have K0 := Lib.hid (show Bk (w.alloc (.cells cs.toArray 36)) w.heap.size 36 (Lib.byteCells kl).toArray by rw [hcs]; exact Bk.new rfl _ _)
 have HP := Lib.hid hp
 have HK := Lib.hid hk
 rw [hv, show p.V = .slice p.ad p.l.length p.cap from rfl]
 clear hv hcs hp hk
 have own0 := Lib.hid (show ∀ X Y, (((w.alloc X).alloc Y).alloc (.cells #[] 5)).ownsRow (w.heap.size + 2) 5 1 (.slice (some ⟨w.heap.size + 1 + 1, 0, none⟩) 0 0) 0 [] from fun X Y => by
  have h := World.ownsRow_lit (base := w.heap.size + 2) (e := 5) (size := 1) ((w.alloc X).alloc Y) #[] 0 (by simp) (by unfold maxLen; omega) rfl
  simpa using h)
 have hb0 := Lib.hid (show ∀ Y Z, Below (w.heap.size + 1) (w.alloc (.cells cs.toArray 36)) (((w.alloc (.cells cs.toArray 36)).alloc Y).alloc Z) from fun Y Z => ((Below.refl _ _).alloc (by simp) _).alloc (by simp) _)
 have hb1 := Lib.hid (show ∀ X, Below w.heap.size w (w.alloc X) from fun X => (Below.refl _ _).alloc (Nat.le_refl _) _)
 have KP := Lib.hid (show (Pt.mk (some ⟨w.heap.size, 0, none⟩) 16 kl).In (w.alloc (.cells cs.toArray 36)) (w.heap.size + 1) by
  have h := bk_pt K0.out
  rw [HK.out] at h
  exact h.more (by simp))
 go_enter Try.func73, Try.ntmps73
 go_wp2_with (first
  | (at_builtin; refine sm_append rfl (.tmp 5) (.tmp 6) rfl (w.heap.size + 2) _ 0 [] rfl ?_ (some ⟨w.heap.size, 0, none⟩) 16 16 kl rfl ?_ HK.out ?_ ?_ ?_ ?_; (focus (exact own0.out _ _)); (focus (intro h; cases h)); (focus (intro h; exact (KP.out.keep (hb0.out _ _)).cells (by rw [HK.out]; omega))); (focus omega); (focus simp); intro v1 w1 hown1 hg1; have HO1 := Lib.hid hown1; have HG1 := Lib.hid hg1; clear hown1 hg1)
  | (at_builtin; refine sm_append rfl (.tmp 7) (.tmp 8) rfl (w.heap.size + 2) v1 (0 + 16) ([] ++ Lib.byteCells kl) rfl HO1.out p.ad p.l.length p.cap p.l rfl HP.out.nil rfl ?_ ?_ ?_ ?_; (focus (exact rk_in HP.out HG1.out (hb1.out _) (hb0.out _ _) (by simp [Value.ownBlock, Act.eval]))); (focus omega); (focus (exact rk_sz HG1.out (by simp))); intro v2 w2 hown2 hg2; have HO2 := Lib.hid hown2; have HG2 := Lib.hid hg2; clear hown2 hg2))
 have own2 : Hid (ownU w2 (w.heap.size + 2) v2 (kl ++ p.l)) := by
  have h := HO2.out
  rw [Nat.zero_add, List.nil_append, ← byteCells_app] at h
  unfold ownU
  rw [List.length_append, HK.out]
  exact Lib.hid h
 have bA := hb1.out (.cells cs.toArray 36)
 have D1 := Lib.hid (Bk.new (w := w.alloc (.cells cs.toArray 36)) (g := w.heap.size + 1) (by simp) 36 zero16)
 have D2 := Lib.hid ((D1.out.more (.cells #[] 5)).only HG1.out (by simp [Value.ownBlock, Act.eval]))
 have D3 := Lib.hid (D2.out.only HG2.out (own_far HO1.out (by omega)))
 have bB : Below w.heap.size w w1 := (bA.trans ((hb0.out (.cells zero16 36) (.cells #[] 5)).mono (by omega))).grown HG1.out (by simp; omega) (fun k hk => by
  have : w.heap.size + 1 + 1 = k := by simpa [Value.ownBlock, Act.eval] using hk
  omega)
 have bw2 : Below w.heap.size w w2 := bB.grown HG2.out bB.size (fun k hk => by have := (HO1.out.lt k hk).1; omega)
 have z2 := bw2.size
 have zz : 0 < w2.heap.size := by have := D3.out.lt; omega
 obtain ⟨q, rfl, hql, hqi, _⟩ := own_pt own2.out
 have G := rsum_pt q w2 hqi (by rw [hql, List.length_append, HK.out]; omega)
 rw [hql, HV.out] at G
 have G := Lib.hid G
 clear HO1 HG1 HO2 HG2 D1 D2 own0 hb0 hb1 own2 hql hqi bA bB
 refine G.out.mono ?_
 rintro e w4 ⟨rfl, b4⟩
 have bw4 := bw2.trans (b4.mono z2)
 have D4 := Lib.hid (D3.out.under b4 D3.out.lt)
 have TH := Lib.hid (show w4.there (w.heap.size + 1) 0 ds.toArray.size by rw [show ds.toArray.size = 16 by simp [HDL.out]]; exact D4.out.there 16 rfl)
 clear D4 D3 G b4
 go_wp2_with ((with_reducible refine sm_at_store ?_ ?_); (focus go_simp); (refine fun K hK => wp_store_mid 36 _ _ rfl (w.heap.size + 1) 0 ds.toArray rfl rfl TH.out hi3.out HO.out (hK _ _ ?_)))
 rw [HV.out]
 exact bodyPost_ret (sm_results_cell rfl _ _ _ (w.heap.size + 1) 0 rfl ds dd (World.rangeAt_setCells_same _ _ _ _ (by simpa using TH.out)) HD.out.1 HD.out.2 hi4.out) rfl ⟨rfl, sm_below_setCells _ _ _ (by omega) bw4⟩
theorem two_any (a b : List UInt8) (ha : a.length = 16) (hb : b.length = 16) (w : World) :
  Calls Try.prog 72 #[digV a, digV b] w fun e w' => e = .returned (digV (sumL (a ++ b))) ∧ Below w.heap.size w w' := by
 obtain ⟨ds, hds⟩ : ∃ ds, ds = Lib.byteCells (sumL (a ++ b)) := ⟨_, rfl⟩
 have hval : digV (sumL (a ++ b)) = .agg ds.toArray := by rw [hds]; rfl
 have hdl : ds.length = 16 := by rw [hds]; rfl
 have HO := Lib.hid (show ds.toArray.all (·.oneCell') = true by rw [hds]; exact bytes_one _)
 have HV := Lib.hid hval
 have HDL := Lib.hid hdl
 have hi3 := Lib.hid (show (Try.prog.info? 36).map (·.size) = some ds.toArray.size by rw [sm_dsize]; simp [hdl])
 have hi4 := Lib.hid (show (Try.prog.info? 36).map (·.size) = some ds.length by rw [sm_dsize, hdl])
 obtain ⟨dd, hd⟩ : ∃ d, Try.prog.underlying 36 = some d ∧ d.isRow = true := ⟨_, Try.underlying36, rfl⟩
 have HD := Lib.hid hd
 clear hds hval hdl hd
 have K := Lib.hid (fun (W : World) (p : Pt) (h : p.In W W.heap.size) (hm : p.l.length ≤ 90000000000000) => keyed_any a ha p W h hm)
 obtain ⟨acs, has⟩ : ∃ acs, acs = Lib.byteCells a := ⟨_, rfl⟩
 obtain ⟨bs, hbs⟩ : ∃ bs, bs = Lib.byteCells b := ⟨_, rfl⟩
 have hva : digV a = .agg acs.toArray := by rw [has]; rfl
 have hvb : digV b = .agg bs.toArray := by rw [hbs]; rfl
 have hal : acs.length = 16 := by rw [has]; simp [Lib.byteCells, ha]
 have hbl : bs.toArray.size = 16 := by rw [hbs]; simp [Lib.byteCells, hb]
 have hi5 := Lib.hid (show (Try.prog.info? 36).map (·.size) = some acs.length by rw [sm_dsize, hal])
 have HBS := Lib.hid hbs
 have HB := Lib.hid hb
 rw [hva] at K ⊢
 rw [hvb]
 clear hva hvb hbs has ha hb hal
 go_enter Try.func72, Try.ntmps72
 go_wp2_with fail
 have A1 := Lib.hid ((Bk.new (w := w) rfl 36 acs.toArray).range)
 have B1 := Lib.hid (Bk.new (w := w.alloc (.cells acs.toArray 36)) (g := w.heap.size + 1) (by simp) 36 bs.toArray)
 have D1 := Lib.hid (Bk.new (w := (w.alloc (.cells acs.toArray 36)).alloc (.cells bs.toArray 36)) (g := w.heap.size + 2) (by simp) 36 zero16)
 have B2 := Lib.hid (B1.out.more (.cells zero16 36))
 have b2 : Below w.heap.size w (((w.alloc (.cells acs.toArray 36)).alloc (.cells bs.toArray 36)).alloc (.cells zero16 36)) := (((Below.refl _ _).alloc (Nat.le_refl _) _).alloc (by simp) _).alloc (by simp; omega) _
 have A2 : Hid ((((w.alloc (.cells acs.toArray 36)).alloc (.cells bs.toArray 36)).alloc (.cells zero16 36)).rangeAt w.heap.size 0 acs) := Lib.hid (World.rangeAt_alloc (World.rangeAt_alloc A1.out _) _)
 have z2 : (((w.alloc (.cells acs.toArray 36)).alloc (.cells bs.toArray 36)).alloc (.cells zero16 36)).heap.size = w.heap.size + 3 := by simp
 change Code.wp Try.prog _ _ _ (((w.alloc (.cells acs.toArray 36)).alloc (.cells bs.toArray 36)).alloc (.cells zero16 36))
 clear A1 B1
 generalize (((w.alloc (.cells acs.toArray 36)).alloc (.cells bs.toArray 36)).alloc (.cells zero16 36)) = w2 at A2 B2 D1 b2 z2 ⊢
 have z2' : w.heap.size + 3 ≤ w2.heap.size := by omega
 clear z2
 refine wp_region_still_tail 2 (by kernel_rfl) (by kernel_rfl) ?_
 simp only [List.take_succ_cons, List.take_zero, List.drop_succ_cons, List.drop_zero]
 change wpStill Try.prog _ w2.drew _ _ _
 refine wpStill_step (fun K hK => ?_)
 rw [if_pos (by rfl)]
 refine still_load_mid 36 _ rfl w.heap.size 0 rfl acs dd (show w2.drew.rangeAt w.heap.size 0 acs from A2.out) HD.out.1 HD.out.2 hi5.out (hK _ ?_)
 clear hK K
 still_step
 refine wpStill_nil ?_
 change wpList _ _ _ _ _ w2.drew
 have PI : (Pt.mk (some ⟨w.heap.size + 1, 0, none⟩) 16 b).In w2.drew w2.drew.heap.size := by
  have h := bk_pt (w := w2.drew) (g := w.heap.size + 1) (t := 36) (l := b) (by rw [← HBS.out]; exact B2.out)
  rw [HB.out] at h
  exact h
 have C := K.out w2.drew _ PI (by simp only [HB.out]; omega)
 have hV : (Pt.mk (some ⟨w.heap.size + 1, 0, none⟩) 16 b).V = .slice (some ⟨w.heap.size + 1, 0, none⟩) 16 16 := by unfold Pt.V; simp only [HB.out]
 rw [hV, HV.out] at C
 have C := Lib.hid C
 have D2 : Hid (Bk w2.drew (w.heap.size + 2) 36 zero16) := D1
 have bw : Below w.heap.size w w2.drew := b2.drew
 have z3 : w.heap.size + 3 ≤ w2.drew.heap.size := z2'
 clear PI hV K A2 B2 D1 b2 z2'
 generalize w2.drew = w3 at C D2 bw z3 ⊢
 go_wp2_with fail
 refine C.out.mono ?_
 rintro e w4 ⟨rfl, b4⟩
 have bw4 := bw.trans (b4.mono (by omega))
 have D4 := Lib.hid (D2.out.under b4 D2.out.lt)
 have TH := Lib.hid (show w4.there (w.heap.size + 2) 0 ds.toArray.size by rw [show ds.toArray.size = 16 by simp [HDL.out]]; exact D4.out.there 16 rfl)
 clear D4 D2 C b4
 go_wp2_with ((with_reducible refine sm_at_store ?_ ?_); (focus go_simp); (refine fun K hK => wp_store_mid 36 _ _ rfl (w.heap.size + 2) 0 ds.toArray rfl rfl TH.out hi3.out HO.out (hK _ _ ?_)))
 rw [HV.out]
 exact bodyPost_ret (sm_results_cell rfl _ _ _ (w.heap.size + 2) 0 rfl ds dd (World.rangeAt_setCells_same _ _ _ _ (by simpa using TH.out)) HD.out.1 HD.out.2 hi4.out) rfl ⟨rfl, sm_below_setCells _ _ _ (by omega) bw4⟩
theorem rtwo_any (a b : List UInt8) (ha : a.length = 16) (hb : b.length = 16) (w : World) :
  Calls Try.prog 74 #[digV a, digV b] w fun e w' => e = .returned (digV (sumL (a ++ b))) ∧ Below w.heap.size w w' := by
 obtain ⟨ds, hds⟩ : ∃ ds, ds = Lib.byteCells (sumL (a ++ b)) := ⟨_, rfl⟩
 have hval : digV (sumL (a ++ b)) = .agg ds.toArray := by rw [hds]; rfl
 have hdl : ds.length = 16 := by rw [hds]; rfl
 have HO := Lib.hid (show ds.toArray.all (·.oneCell') = true by rw [hds]; exact bytes_one _)
 have HV := Lib.hid hval
 have HDL := Lib.hid hdl
 have hi3 := Lib.hid (show (Try.prog.info? 36).map (·.size) = some ds.toArray.size by rw [sm_dsize]; simp [hdl])
 have hi4 := Lib.hid (show (Try.prog.info? 36).map (·.size) = some ds.length by rw [sm_dsize, hdl])
 obtain ⟨dd, hd⟩ : ∃ d, Try.prog.underlying 36 = some d ∧ d.isRow = true := ⟨_, Try.underlying36, rfl⟩
 have HD := Lib.hid hd
 clear hds hval hdl hd
 have K := Lib.hid (fun (W : World) (p : Pt) (h : p.In W W.heap.size) (hm : p.l.length ≤ 90000000000000) => rkeyed_any a ha p W h hm)
 obtain ⟨acs, has⟩ : ∃ acs, acs = Lib.byteCells a := ⟨_, rfl⟩
 obtain ⟨bs, hbs⟩ : ∃ bs, bs = Lib.byteCells b := ⟨_, rfl⟩
 have hva : digV a = .agg acs.toArray := by rw [has]; rfl
 have hvb : digV b = .agg bs.toArray := by rw [hbs]; rfl
 have hal : acs.length = 16 := by rw [has]; simp [Lib.byteCells, ha]
 have hbl : bs.toArray.size = 16 := by rw [hbs]; simp [Lib.byteCells, hb]
 have hi5 := Lib.hid (show (Try.prog.info? 36).map (·.size) = some acs.length by rw [sm_dsize, hal])
 have HBS := Lib.hid hbs
 have HB := Lib.hid hb
 rw [hva] at K ⊢
 rw [hvb]
 clear hva hvb hbs has ha hb hal
 go_enter Try.func74, Try.ntmps74
 go_wp2_with fail
 have A1 := Lib.hid ((Bk.new (w := w) rfl 36 acs.toArray).range)
 have B1 := Lib.hid (Bk.new (w := w.alloc (.cells acs.toArray 36)) (g := w.heap.size + 1) (by simp) 36 bs.toArray)
 have D1 := Lib.hid (Bk.new (w := (w.alloc (.cells acs.toArray 36)).alloc (.cells bs.toArray 36)) (g := w.heap.size + 2) (by simp) 36 zero16)
 have B2 := Lib.hid (B1.out.more (.cells zero16 36))
 have b2 : Below w.heap.size w (((w.alloc (.cells acs.toArray 36)).alloc (.cells bs.toArray 36)).alloc (.cells zero16 36)) := (((Below.refl _ _).alloc (Nat.le_refl _) _).alloc (by simp) _).alloc (by simp; omega) _
 have A2 : Hid ((((w.alloc (.cells acs.toArray 36)).alloc (.cells bs.toArray 36)).alloc (.cells zero16 36)).rangeAt w.heap.size 0 acs) := Lib.hid (World.rangeAt_alloc (World.rangeAt_alloc A1.out _) _)
 have z2 : (((w.alloc (.cells acs.toArray 36)).alloc (.cells bs.toArray 36)).alloc (.cells zero16 36)).heap.size = w.heap.size + 3 := by simp
 change Code.wp Try.prog _ _ _ (((w.alloc (.cells acs.toArray 36)).alloc (.cells bs.toArray 36)).alloc (.cells zero16 36))
 clear A1 B1
 generalize (((w.alloc (.cells acs.toArray 36)).alloc (.cells bs.toArray 36)).alloc (.cells zero16 36)) = w2 at A2 B2 D1 b2 z2 ⊢
 have z2' : w.heap.size + 3 ≤ w2.heap.size := by omega
 clear z2
 refine wp_region_still_tail 2 (by kernel_rfl) (by kernel_rfl) ?_
 simp only [List.take_succ_cons, List.take_zero, List.drop_succ_cons, List.drop_zero]
 change wpStill Try.prog _ w2.drew _ _ _
 refine wpStill_step (fun K hK => ?_)
 rw [if_pos (by rfl)]
 refine still_load_mid 36 _ rfl w.heap.size 0 rfl acs dd (show w2.drew.rangeAt w.heap.size 0 acs from A2.out) HD.out.1 HD.out.2 hi5.out (hK _ ?_)
 clear hK K
 still_step
 refine wpStill_nil ?_
 change wpList _ _ _ _ _ w2.drew
 have PI : (Pt.mk (some ⟨w.heap.size + 1, 0, none⟩) 16 b).In w2.drew w2.drew.heap.size := by
  have h := bk_pt (w := w2.drew) (g := w.heap.size + 1) (t := 36) (l := b) (by rw [← HBS.out]; exact B2.out)
  rw [HB.out] at h
  exact h
 have C := K.out w2.drew _ PI (by simp only [HB.out]; omega)
 have hV : (Pt.mk (some ⟨w.heap.size + 1, 0, none⟩) 16 b).V = .slice (some ⟨w.heap.size + 1, 0, none⟩) 16 16 := by unfold Pt.V; simp only [HB.out]
 rw [hV, HV.out] at C
 have C := Lib.hid C
 have D2 : Hid (Bk w2.drew (w.heap.size + 2) 36 zero16) := D1
 have bw : Below w.heap.size w w2.drew := b2.drew
 have z3 : w.heap.size + 3 ≤ w2.drew.heap.size := z2'
 clear PI hV K A2 B2 D1 b2 z2'
 generalize w2.drew = w3 at C D2 bw z3 ⊢
 go_wp2_with fail
 refine C.out.mono ?_
 rintro e w4 ⟨rfl, b4⟩
 have bw4 := bw.trans (b4.mono (by omega))
 have D4 := Lib.hid (D2.out.under b4 D2.out.lt)
 have TH := Lib.hid (show w4.there (w.heap.size + 2) 0 ds.toArray.size by rw [show ds.toArray.size = 16 by simp [HDL.out]]; exact D4.out.there 16 rfl)
 clear D4 D2 C b4
 go_wp2_with ((with_reducible refine sm_at_store ?_ ?_); (focus go_simp); (refine fun K hK => wp_store_mid 36 _ _ rfl (w.heap.size + 2) 0 ds.toArray rfl rfl TH.out hi3.out HO.out (hK _ _ ?_)))
 rw [HV.out]
 exact bodyPost_ret (sm_results_cell rfl _ _ _ (w.heap.size + 2) 0 rfl ds dd (World.rangeAt_setCells_same _ _ _ _ (by simpa using TH.out)) HD.out.1 HD.out.2 hi4.out) rfl ⟨rfl, sm_below_setCells _ _ _ (by omega) bw4⟩
end Go.Proofs.Ytopamplmpfndlaa.Sm
