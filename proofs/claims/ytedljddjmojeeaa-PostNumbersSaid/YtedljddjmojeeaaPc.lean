/- slices.Delete of a row of any -/
import Derived.Test.YtedljddjmojeeaaPb
import Derived.Deep.LoopGhost
import Derived.Deep.RegionLaw
import Derived.Lib.Walk
import Derived.Sort.WalkB12
import Derived.Lib.SliceRun
import Derived.Lib.SlicesDelete
namespace Go.Proofs.Ytedljddjmojeeaa
open Go.RowKit
theorem if_info : (Try.prog.info? 20).map (fun i => (i.zero, i.size, i.bytes)) = some (some .nilIface, 1, 16) := by kernel_rfl
theorem if_zero (w : World) : (zeroValue 20).run Try.prog w = .ok .nilIface w := by kernel_rfl
structure DelPost (g n cap i : Nat) (xs : List Value) (w w' : World) : Prop where
  blk : ∃ cur : Array Value, Bk w' g 20 cur ∧ cur.size = cap ∧ cur.toList.take (n - 1) = xs.take i ++ xs.drop (i + 1)
  md : Md g w w'
theorem setCells_md (g o : Nat) (vs : List Value) (w : World) : Md g w (w.setCells g o vs) := (Only.setCells g vs o w).md
set_option maxHeartbeats 4000000 in
set_option maxRecDepth 1000000 in
theorem delete_any (g n cap i : Nat) (cur : Array Value) (w : World) (hb : Bk w g 20 cur) (hs : cur.size = cap) (hn : n ≤ cap) (hm : cap ≤ 9223372036854775807) (hi : i < n) (h1 : ∀ v ∈ cur.toList.take n, v.oneCell' = true) :
    Calls Try.prog 64 #[.slice (some ⟨g, 0, none⟩) n cap, .int .i64 i, .int .i64 ((i : Int) + 1)] w fun e w' => e = .returned (.slice (some ⟨g, 0, none⟩) (n - 1) cap) ∧ DelPost g n cap i (cur.toList.take n) w w' := by
  obtain ⟨j, hj⟩ : ∃ j, j = i + 1 := ⟨_, rfl⟩
  rw [show ((i : Int) + 1) = ((j : Nat) : Int) by omega]
  have mixed : Try.prog.follows .mixedOrders = true := by kernel_rfl
  obtain ⟨i0, hi0, hz0, hz1, hz2⟩ := info_parts if_info
  obtain ⟨news, hnews⟩ : ∃ news, news = (cur.toList.take n).drop (j) := ⟨_, rfl⟩
  have hlen : news.length = n - (j) := by rw [hnews]; simp; omega
  have hget : ∀ t, t < n - (j) → news[t]? = cur[j + t]? := by
    intro t ht
    rw [hnews, List.getElem?_drop, List.getElem?_take, if_pos (by omega), Array.getElem?_toList]
  obtain ⟨A, hA, hsrc⟩ : ∃ A : Addr, (if cap = j then some (⟨g, 0, none⟩ : Addr) else some ⟨g, j, none⟩) = some A ∧ Hid (∀ t u, news[t]? = some u → w.drew.cell? (A.add t) = some u) := by
    by_cases h : cap = j
    · refine ⟨⟨g, 0, none⟩, by simp [h], fun t u hu => ?_⟩
      have h0 : news.length = 0 := by rw [hlen]; omega
      rw [List.length_eq_zero_iff.1 h0] at hu
      simp at hu
    · refine ⟨⟨g, j, none⟩, by simp [h], fun t u hu => ?_⟩
      have ht : t < n - (j) := by
        have := (List.getElem?_eq_some_iff.1 hu).1
        rwa [hlen] at this
      rw [hget t ht] at hu
      rw [Addr.add_lit]
      exact (hb.cell _).trans hu
  have s1 : Hid (news.length = (n - (j)) * 1) := by rw [Nat.mul_one]; exact hlen
  have s2 : Hid (∀ u ∈ news, u.oneCell' = true) := by
    intro u hu
    rw [hnews] at hu
    exact h1 u (List.mem_of_mem_drop hu)
  have s3 : Hid (∀ t, t < news.length → (w.drew.cell? ⟨g, 0 + i * 1 + t, none⟩).isSome = true ∧ w.drew.frozen? ⟨g, 0 + i * 1 + t, none⟩ = false) := by
    intro t ht
    rw [hlen] at ht
    refine ⟨?_, hb.fr _⟩
    show (w.cell? _).isSome = true
    rw [hb.cell]
    simp; omega
  obtain ⟨W1, hW1⟩ : ∃ W1, W1 = w.drew.setCells g (0 + i * 1) news := ⟨_, rfl⟩
  have hb0 : Bk w.drew g 20 cur.toList.toArray := by rw [Array.toArray_toList]; exact hb
  have hB1 : Bk W1 g 20 (cur.toList.take i ++ news ++ cur.toList.drop (i + news.length)).toArray := by
    rw [hW1, show 0 + i * 1 = i by omega]
    exact seg_set news i cur.toList (by simp; omega) _ _ _ hb0
  obtain ⟨C1, hC1⟩ : ∃ C1, C1 = cur.toList.take i ++ news ++ cur.toList.drop (i + news.length) := ⟨_, rfl⟩
  rw [← hC1] at hB1
  have hC1l : C1.length = cap := by rw [hC1]; simp; omega
  have hcl : ∀ ty, (Builtin.clear_ #[105] ty #[.slice (some ⟨g, i + (n - j), none⟩) (n - (i + (n - j))) (cap - (i + (n - j)))]).run Try.prog W1 = .ok (.tuple #[]) (W1.setCells g (n - 1) (List.replicate 1 Value.nilIface)) :=
    fun ty => by
    rw [show i + (n - j) = n - 1 by omega, show n - (n - 1) = 1 by omega]
    exact Lib.run_clear_slice W1 _ _ ty _ Try.underlying105 if_zero rfl rfl g (n - 1) _ _ (by omega) (fun t ht => by rw [hB1.cell]; simp; omega) (fun t ht => hB1.fr _)
  have hB2 : Bk (W1.setCells g (n - 1) (List.replicate 1 Value.nilIface)) g 20 (C1.take (n - 1) ++ List.replicate 1 Value.nilIface ++ C1.drop (n - 1 + 1)).toArray := seg_set (List.replicate 1 Value.nilIface) (n - 1) C1 (by simp; omega) _ _ _ hB1
  have X : Hid (DelPost g n cap i (cur.toList.take n) w (W1.setCells g (n - 1) (List.replicate 1 Value.nilIface))) := Lib.hid ⟨⟨_, hB2, by simp; omega, by
    have e : C1.take (n - 1) = (cur.toList.take n).take i ++ news := by
      rw [hC1, List.append_assoc, ← List.append_assoc, List.take_append_of_le_length (by simp; omega), List.take_of_length_le (by simp; omega), List.take_take, Nat.min_eq_left (by omega)]
    rw [hnews] at e
    rw [List.append_assoc, List.take_append_of_le_length (by simp; omega), List.take_take, Nat.min_self]
    rw [hj] at e; exact e⟩, by rw [hW1]; exact Md.trans (Md.trans (Ex.md (show Ex w w.drew from (Below.refl _ _).drew) (Nat.le_of_lt hb.lt)) (setCells_md _ _ _ _)) (setCells_md _ _ _ _)⟩
  have hW : Hid (W1 = w.drew.setCells g (0 + i * 1) news) := hW1
  have hic : i ≤ cap := by omega
  have hjc : j ≤ cap := by omega
  have hij : i < j := by omega
  have hjn : j ≤ n := by omega
  have q3 : (0 : Int) ≤ (j : Int) := by omega
  have q4 : (i : Int) < (j : Int) := by omega
  have q5 : (j : Int) ≤ (n : Int) := by omega
  have q0 : (0 : Int) ≤ (i : Int) := by omega
  have q1 : (i : Int) < (n : Int) := by omega
  have q2 : (n : Int) ≤ (cap : Int) := by omega
  have HJ := Lib.hid hj
  clear hW1 hB1 hB2 hget hnews hlen hC1 hC1l hb0 hb h1 hs hj
  go_enter Try.func64, Try.ntmps64
  go_wp2_with fail
  go_region_law_o (refine step_append_room rfl (.tmp 22) (.tmp 25) (105) rfl (20) i0 1 Try.underlying105 hi0 hz1 g 0 i cap (by simp [Act.eval, Act.put]) A (n - (j)) (cap - (j)) news (by simp [Act.eval, Act.put]) s1.out hsrc.out s2.out (by omega) s3.out ?_; rw [← hW.out])
  go_wp2
  go_ret
  exact ⟨by rw [show n - 1 = i + (n - j) by have := HJ.out; omega]; rfl, X.out⟩
end Go.Proofs.Ytedljddjmojeeaa
