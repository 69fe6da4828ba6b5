/- what comes in: rows of what is asked of an office; PostPlays, of what comes in -/
import Derived.Test.YtedljddjmojeeaaPs
import Derived.Test.YtedljddjmojeeaaPn
namespace Go.Proofs.Ytedljddjmojeeaa
open Go.ChangeShapes Go.WideShapes Go.ChangeAt Go.RowKit Go.Deep
theorem Try.cells72 : Try.prog.cellsOf 72 = 6 := by kernel_rfl
def fields72 : List Field := [⟨ "Kind", 3, 0, false, "", "", 0⟩, ⟨ "I", 3, 1, false, "", "", 8⟩, ⟨ "L", 70, 2, false, "", "", 16⟩]
theorem fields72_is : (Try.prog.fieldsOf 72).toList = fields72 := by
  unfold Program.fieldsOf
  rw [Try.underlying72]
  rfl
theorem under72 : Try.prog.underlying 72 = some (.struct (Try.prog.fieldsOf 72)) := by
  unfold Program.fieldsOf; rw [Try.underlying72]
set_option maxRecDepth 100000 in
theorem ak_cells {H : Type} {enc : TypeId × Value → H} {W : World} {n : Nat} {cs : List Value} {x : DataW H × List MemPlace} (hl : cs.length = 6) (h : DataW.trod enc Try.prog W 0 (fun _ => true) true n 72 cs = some x) :
    ∃ z : Ak, cs = z.C ∧ z.In W := by
  obtain ⟨xs, k, _, _, _, hlen, hf⟩ := DataW.trod_struct under72 h
  have hfs : (Try.prog.fieldsOf 72).toList = fields72 := fields72_is
  have g0 : (Try.prog.fieldsOf 72)[0]? = some ⟨ "Kind", 3, 0, false, "", "", 0⟩ := by rw [← Array.getElem?_toList, hfs]; rfl
  have g1 : (Try.prog.fieldsOf 72)[1]? = some ⟨ "I", 3, 1, false, "", "", 8⟩ := by rw [← Array.getElem?_toList, hfs]; rfl
  have g2 : (Try.prog.fieldsOf 72)[2]? = some ⟨ "L", 70, 2, false, "", "", 16⟩ := by rw [← Array.getElem?_toList, hfs]; rfl
  have hn : xs.length = 3 := by rw [hlen, ← Array.length_toList, hfs]; rfl
  match xs, hn, cs, hl with
  | [y0, y1, y2], _, [c0, c1, c2, c3, c4, c5], _ =>
    have f0 : DataW.trod enc Try.prog W 0 (fun _ => true) true k 3 (([c0, c1, c2, c3, c4, c5].drop 0).take (Try.prog.cellsOf 3)) = some y0 := hf 0 _ g0
    rw [Try.cells3] at f0
    obtain ⟨m0, e0, _, w0⟩ := DataW.trod_int Try.underlying3 f0
    have e0 : c0 = .int .i64 m0 := by simpa using e0
    have f1 : DataW.trod enc Try.prog W 0 (fun _ => true) true k 3 (([c0, c1, c2, c3, c4, c5].drop 1).take (Try.prog.cellsOf 3)) = some y1 := hf 1 _ g1
    rw [Try.cells3] at f1
    obtain ⟨m1, e1, _, w1⟩ := DataW.trod_int Try.underlying3 f1
    have e1 : c1 = .int .i64 m1 := by simpa using e1
    have f2 : DataW.trod enc Try.prog W 0 (fun _ => true) true k 70 (([c0, c1, c2, c3, c4, c5].drop 2).take (Try.prog.cellsOf 70)) = some y2 := hf 2 _ g2
    rw [Try.cells70] at f2
    obtain ⟨z, ez, iz⟩ := lt_cells (by rfl) f2
    have e2 : [c2, c3, c4, c5] = z.C := ez
    refine ⟨⟨m0, m1, z⟩, ?_, ⟨wf_i64 w0, wf_i64 w1, iz⟩⟩
    show c0 :: c1 :: [c2, c3, c4, c5] = _
    rw [e2, e0, e1]
    rfl
def ApRow (W : World) (v : Value) : Prop := ∃ (ad : Option Addr) (cap : Nat) (l : List Ak), v = .slice ad l.length cap ∧ Ap.In ad cap l W ∧ l.length ≤ 9223372036854775807
set_option maxRecDepth 100000 in
theorem open_aks {H : Type} (enc : TypeId × Value → H) (W : World) (v : Value) {d : DataW H} {ps : List MemPlace} (base : Nat) (hval : Value.okWide Try.prog W .any base 68 v) (h : DataW.Trod enc Try.prog W 0 (fun _ => true) true 68 v d ps) : ApRow W v := by
  obtain ⟨a1, len1, cap1, rfl⟩ := okWide_slice Try.underlying68 hval
  obtain ⟨fuel, hf⟩ := h
  rcases open_slice Try.underlying68 hf with ⟨hcs, hx⟩ | ⟨a, len, cap, m, n, D, Pl, hcs, hb, hl, hm, hmm, hx, hi⟩
  · simp [Value.cells] at hcs
    obtain ⟨rfl, rfl, rfl⟩ := hcs
    exact ⟨none, 0, [], rfl, ⟨Nat.le_refl _, fun _ => rfl, fun i x hx => by simp at hx, fun h => absurd h (Nat.lt_irrefl 0)⟩, Nat.zero_le _⟩
  · simp [Value.cells] at hcs
    obtain ⟨rfl, rfl, rfl⟩ := hcs
    simp only [if_true] at hmm
    have key : ∀ i : Fin len1, ∃ z : Ak, z.In W ∧ ∀ (j : Nat) (u : Value), z.C[j]? = some u → W.cell? ((a.add (i.1 * 6)).add j) = some u := fun i => by
      obtain ⟨cs', hc, ht'⟩ := hi i.1 (by have := i.2; omega)
      rw [Try.cells72] at hc
      obtain ⟨_, hcl, hat⟩ := World.cells?_some hc
      obtain ⟨z, z1, z3⟩ := ak_cells hcl ht'
      refine ⟨z, z3, fun j u hu => ?_⟩
      have hj : j < 6 := by rw [← z1] at hu; have := (List.getElem?_eq_some_iff.1 hu).1; omega
      rw [hat j hj, z1]; exact hu
    obtain ⟨f, hff⟩ := Classical.axiomOfChoice key
    have hget : ∀ (i : Nat) (x : Ak), (List.ofFn f)[i]? = some x → ∃ hi : i < len1, x = f ⟨i, hi⟩ := fun i x hx => by
      have hlt : i < len1 := by have := (List.getElem?_eq_some_iff.1 hx).1; simpa using this
      refine ⟨hlt, ?_⟩
      rw [List.getElem?_ofFn, dif_pos hlt] at hx
      exact (Option.some.inj hx).symm
    refine ⟨some a, cap1, List.ofFn f, by simp, ⟨by simpa using hl, (fun h => by cases h), fun i x hx => ?_, fun h0 => ?_⟩, by have := Nat.le_trans hl hm; unfold maxLen at this; simpa using this⟩
    · obtain ⟨h1, rfl⟩ := hget i x hx
      exact (hff ⟨i, h1⟩).1
    · have hpos : 0 < len1 := by rwa [List.length_ofFn] at h0
      obtain ⟨ab, ao, spot⟩ := a
      have hc0 := (hff ⟨0, hpos⟩).2 0 _ rfl
      have hspot : spot = none := by simpa [Addr.add] using World.cell?_spot hc0
      subst hspot
      refine ⟨ab, ao, rfl, by have := World.block_lt_of_cell? W _ hc0; simpa [Addr.add] using this, fun i x hx => ?_⟩
      obtain ⟨h1, rfl⟩ := hget i x hx
      intro j u hu
      have z1 := (hff ⟨i, h1⟩).2 j u hu
      rw [Addr.add_lit, Addr.add_lit] at z1
      exact z1
set_option maxHeartbeats 4000000 in
set_option maxRecDepth 100000 in
theorem plays_any (ad : Option Addr) (cap : Nat) (l : List Ak) (hL : l.length ≤ 9223372036854775807) (w : World) (hin : Ap.In ad cap l w) : Calls Try.prog 10 #[.slice ad l.length cap] w fun e w' => e = .returned (.bool true) ∧ Ex w w' := by
  have HIN := Lib.hid hin
  clear hin
  go_enter Try.func10, Try.ntmps10
  go_wp2_with fail
  refine (play21 ad cap l hL 100 w HIN.out).mono ?_
  rintro e w1 ⟨rfl, xx⟩
  have BW := Lib.hid xx
  clear xx
  go_wp2_with fail
  refine (known21 w1).mono ?_
  rintro e w2 ⟨rfl, xx⟩
  replace BW := Lib.hid (Ex.trans BW.out xx)
  clear xx
  go_wp2_with fail
  go_ret
  exact ⟨rfl, BW.out⟩
theorem plays_law (v : Value) (w : World) (h : ApRow w v) : Calls Try.prog 10 #[v] w fun e w' => e = .returned (.bool true) ∧ Below w.heap.size w w' := by
  obtain ⟨ad, cap, l, rfl, hin, hl⟩ := h
  exact plays_any ad cap l hl w hin
end Go.Proofs.Ytedljddjmojeeaa
