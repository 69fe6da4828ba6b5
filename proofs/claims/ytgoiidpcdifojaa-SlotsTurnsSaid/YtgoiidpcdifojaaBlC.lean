/- walks: slices.Concat of rows of bytes -/
import Derived.Test.YtgoiidpcdifojaaBlB
namespace Go.Proofs.Ytgoiidpcdifojaa.Sm
open Go.RowKit
/-- a row of bytes, as it is handed in -/
structure Pt where
  ad : Option Addr
  cap : Nat
  l : List UInt8
def Pt.V (p : Pt) : Value := .slice p.ad p.l.length p.cap
structure Pt.In (p : Pt) (w : World) (B : Nat) : Prop where
  cap : p.l.length ≤ p.cap
  nil : p.ad = none → p.cap = 0
  read : 0 < p.l.length → ∃ a o, p.ad = some ⟨a, o, none⟩ ∧ a < B ∧ ∀ i, i < p.l.length → w.cell? ⟨a, o + i, none⟩ = some (.int .u8 (p.l.getD i 0).toNat)
theorem Pt.In.keep {p : Pt} {w w' : World} {B : Nat} (h : p.In w B) (k : Below B w w') : p.In w' B :=
  ⟨h.cap, h.nil, fun h0 => by
    obtain ⟨a, o, e, hB, hc⟩ := h.read h0
    exact ⟨a, o, e, hB, fun i hi => (k.cell (p := ⟨a, _, none⟩) hB).trans (hc i hi)⟩⟩
theorem Pt.In.more {p : Pt} {w : World} {B B' : Nat} (h : p.In w B) (k : B ≤ B') : p.In w B' :=
  ⟨h.cap, h.nil, fun h0 => by
    obtain ⟨a, o, e, hB, hc⟩ := h.read h0
    exact ⟨a, o, e, by omega, hc⟩⟩
theorem Pt.In.cells {p : Pt} {w : World} {B : Nat} (h : p.In w B) : 0 < p.l.length → ∃ ad, p.ad = some ad ∧ ∀ j u, (Lib.byteCells p.l)[j]? = some u → w.cell? (ad.add j) = some u := by
  intro h0
  obtain ⟨a, o, e, _, hc⟩ := h.read h0
  refine ⟨_, e, fun j u hu => ?_⟩
  have hj : j < p.l.length := by have := (List.getElem?_eq_some_iff.1 hu).1; simpa [Lib.byteCells] using this
  rw [Addr.add_mid, hc j hj, ← hu]
  simp [Lib.byteCells, hj]
def flatL (ps : List Pt) (i : Nat) : List UInt8 := ((ps.take i).map (·.l)).flatten
theorem flatL_succ (ps : List Pt) (i : Nat) (p : Pt) (h : ps[i]? = some p) : flatL ps (i + 1) = flatL ps i ++ p.l := by
  unfold flatL
  have e : ps.take (i + 1) = ps.take i ++ [p] := by
    rw [List.take_add_one, h]; rfl
  rw [e]; simp
theorem flatL_le (ps : List Pt) (N : Nat) (h : (flatL ps ps.length).length ≤ N) (i : Nat) : (flatL ps i).length ≤ N := by
  refine Nat.le_trans ?_ h
  have e : flatL ps ps.length = flatL ps i ++ ((ps.drop i).map (·.l)).flatten := by
    unfold flatL
    rw [List.take_length, ← List.flatten_append, ← List.map_append, List.take_append_drop]
  rw [e]; simp
def ConcatPost (L : List UInt8) (w : World) (e : Ending) (w' : World) : Prop := ∃ v, e = .returned v ∧ ownU w' w.heap.size v L ∧ Below w.heap.size w w'
set_option maxHeartbeats 4000000 in
set_option maxRecDepth 100000 in
theorem concat_any (ps : List Pt) (P c : Nat) (w : World) (hP : P < w.heap.size) (hp : ∀ i p, ps[i]? = some p → w.cell? ⟨P, i, none⟩ = some p.V ∧ p.In w w.heap.size)
    (hN : (flatL ps ps.length).length ≤ 100000000000000) (hk : ps.length ≤ 1000) :
    Calls Try.prog 69 #[.slice (some ⟨P, 0, none⟩) ps.length c] w (ConcatPost (flatL ps ps.length) w) := by
  have HP := Lib.hid hp
  have HL := Lib.hid (flatL_le ps _ hN)
  obtain ⟨k, hk'⟩ : ∃ k, k = ps.length := ⟨_, rfl⟩
  rw [← hk'] at hN hk ⊢
  have HK := Lib.hid hk'
  clear hp hk'
  go_enter Try.func69, Try.ntmps69
  go_wp2_with fail
  go_loop [3, 11] (fun t i => ∃ j : Nat, j ≤ k ∧ i = .int .i64 j ∧ t = .int .i64 ((flatL ps j).length : Nat)) (fun _ i => k - (intOf i).toNat)
  case atStart => exact ⟨0, by omega, rfl, rfl⟩
  case round =>
    obtain ⟨j, hj, rfl, rfl⟩ := hrel
    by_cases hlt : j < k
    · obtain ⟨p, hpj⟩ : ∃ p, ps[j]? = some p := ⟨_, List.getElem?_eq_getElem (by rw [← HK.out]; exact hlt)⟩
      have c0 := (HP.out j p hpj).1
      unfold Pt.V at c0
      have hs := flatL_succ ps j p hpj
      have hl := HL.out (j + 1)
      have hs' : (flatL ps (j + 1)).length = (flatL ps j).length + p.l.length := by rw [hs]; simp
      rw [hs'] at hl
      have HS := Lib.hid hs'
      have q0 : (0 : Int) ≤ (j : Int) := by omega
      have q1 : (j : Int) < (k : Int) := by omega
      clear hs hs' hpj
      obtain ⟨t, ht⟩ : ∃ t, t = (flatL ps j).length := ⟨_, rfl⟩
      rw [← ht] at hl ⊢
      have HT := Lib.hid ht
      clear ht
      have q2 : ¬ ((t : Int) + (p.l.length : Int) < 0) := by omega
      go_wp2_with fail
      go_round
      case rel => exact ⟨j + 1, by omega, by go_num, by rw [HS.out, ← HT.out]; go_num⟩
      case measure => simp [intOf]; omega
    · obtain rfl : j = k := by omega
      have hl := HL.out j
      have G := Lib.hid (grow_any (flatL ps j).length hl w)
      go_wp2_with fail
      refine G.out.mono ?_
      rintro e w1 ⟨v1, rfl, own1, b1⟩
      have own1 := Lib.hid own1
      clear G
      go_wp2_with fail
      go_loopw [6, 27] (fun v i wx => ∃ q : Nat, q ≤ j ∧ i = .int .i64 q ∧ Hid (ownU wx w.heap.size v (flatL ps q)) ∧ Below w.heap.size w wx) (fun _ i _ => j - (intOf i).toNat)
      case atStart => exact ⟨0, by omega, rfl, own1, b1⟩
      case round =>
        clear own1 b1
        obtain ⟨q, hq, rfl, own, bw⟩ := hrel
        have hz := bw.size
        by_cases hlt : q < j
        · obtain ⟨p, hpj⟩ : ∃ p, ps[q]? = some p := ⟨_, List.getElem?_eq_getElem (by rw [← HK.out]; exact hlt)⟩
          have hin := (HP.out q p hpj).2.keep bw
          have c0 : wr.cell? ⟨P, q, none⟩ = some p.V := (bw.cell (p := ⟨P, q, none⟩) hP).trans (HP.out q p hpj).1
          unfold Pt.V at c0
          have hs := flatL_succ ps q p hpj
          have hl2 := HL.out (q + 1)
          rw [hs] at hl2
          have hl3 : (flatL ps q).length + p.l.length ≤ 100000000000000 := by simpa using hl2
          have HS := Lib.hid hs
          have HIN := Lib.hid hin
          have q0 : (0 : Int) ≤ (q : Int) := by omega
          have q1 : (q : Int) < (j : Int) := by omega
          clear hs hpj hl2 hin
          go_wp2_with (at_builtin; refine sm_append rfl (.tmp 31) (.tmp 32) rfl w.heap.size _ (flatL ps q).length _ rfl own.out p.ad p.l.length p.cap p.l rfl ?_ rfl ?_ ?_ ?_ ?_; (focus (exact HIN.out.nil)); (focus (exact HIN.out.cells)); (focus omega); (focus omega); intro v3 w3 hown3 hg3; have HO3 := Lib.hid hown3; have HG3 := Lib.hid hg3; clear hown3 hg3)
          have E1 : Hid (ownU w3 w.heap.size v3 (flatL ps (q + 1))) := by
            have h := HO3.out
            rw [← byteCells_app] at h
            rw [HS.out]
            unfold ownU
            rw [List.length_append]
            exact Lib.hid h
          have bw3 : Below w.heap.size w w3 := bw.grown HG3.out hz (fun x hx => (own.out.lt x hx).1)
          clear HO3 HG3 own
          go_roundw
          case rel => exact ⟨q + 1, by omega, by go_num, E1, bw3⟩
          case measure => simp [intOf]; omega
        · obtain rfl : q = j := by omega
          go_wp2_with fail
          go_ret
          exact ⟨_, rfl, own.out, bw⟩
end Go.Proofs.Ytgoiidpcdifojaa.Sm
