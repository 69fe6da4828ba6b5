/- The program's line of a step that delivers. -/
import Derived.Test.YtgkmfhhoifbbbaaDoorYl
import Derived.Deep.RegionWith
import Derived.Laws.OwnMore
namespace Go.Proofs.YtgkmfhhoifbbbaaDoor
open Go Go.RowKit
def del7 : SV := ⟨2, 0, 0, 7, 0, 0, 0, 0, 0, [0, 0, 0, 0], [], []⟩
def dB : ByteArray := vb [100, 101, 108, 105, 118, 101, 114]
def s7 : ByteArray := vb [55]
theorem info9 : (Tryd.prog.info? 9).map (fun i => (i.zero, i.size, i.bytes)) = some (some (.string ⟨#[]⟩), 1, 16) := by kernel_rfl
def verbA : Array Value := #[.string ⟨#[97, 115, 107]⟩, .string ⟨#[100, 101, 108, 105, 118, 101, 114]⟩, .string ⟨#[108, 111, 115, 101]⟩, .string ⟨#[100, 111, 117, 98, 108, 101]⟩, .string ⟨#[105, 110, 106, 101, 99, 116]⟩, .string ⟨#[102, 117, 115, 101]⟩, .string ⟨#[115, 116, 97, 114, 116]⟩, .string ⟨#[115, 116, 111, 112]⟩, .string ⟨#[99, 111, 112, 121]⟩, .string ⟨#[115, 119, 97, 112]⟩, .string ⟨#[115, 112, 111, 105, 108]⟩, .string ⟨#[109, 111, 118, 101]⟩, .string ⟨#[97, 103, 97, 105, 110]⟩, .string ⟨#[115, 101, 116, 116, 108, 101]⟩]
theorem verbA_eq : (verbZ.map Value.string).toArray = verbA := rfl
def delC : List Value := del7.C nilB nilB
def delI : List Value := del7.I nilB nilB
theorem delI_len : delI.length = 65 := rfl
theorem delC_len : delC.length = 67 := rfl
theorem str_row {w : World} {B g : Nat} {xs : List ByteArray} (h : Bk w g 9 (xs.map Value.string).toArray) (hB : B ≤ g) (hn : xs.length ≤ 1000) : w.ownsRow B 9 1 (.slice (some ⟨g, 0, none⟩) xs.length xs.length) xs.length (xs.map Value.string) := by
  refine ⟨by simp, .inr ⟨g, xs.length, _, rfl, hB, h, Nat.le_refl _, by unfold maxLen; omega, by simp, ?_⟩⟩
  simp only [Nat.mul_one]
  rw [List.take_of_length_le (by simp)]
theorem row_join {w : World} {B n : Nat} {v : Value} {xs : List ByteArray} (h : w.ownsRow B 9 1 v n (xs.map Value.string)) (hx : xs ≠ []) (hn : n = xs.length) (hN : xs.length ≤ 1000) (sep : ByteArray) (hlen : (Lib.join (xs.map (·.data.toList)) sep.data.toList).length ≤ 140737488355328) :
    Calls Tryd.prog 61 #[v, .string sep] w fun e w' => e = .returned (.string ⟨(Lib.join (xs.map (·.data.toList)) sep.data.toList).toArray⟩) ∧ Below w.heap.size w w' := by
  subst hn
  rcases h.2 with ⟨rfl, h0⟩ | ⟨g, cap, cur, rfl, _, hg, hk, _, hsz, hcur⟩
  · exact absurd (List.eq_nil_of_length_eq_zero h0) hx
  · refine Tryd.strings_Join g 0 cap xs sep w (fun j x hj => ?_) (Array.getElem?_eq_some_iff.1 hg).1 (by omega) hk hlen
    have hlt := (List.getElem?_eq_some_iff.1 hj).1
    rw [Nat.zero_add, h.cellAt j (by omega)]
    simp [hj]
def ixOf : Value → Nat
  | .int _ z => z.toNat
  | _ => 0
theorem dec7 : Lib.decDigits 7 = [55] := by kernel_rfl
theorem own_ne_bk {w : World} {B e size n k : Nat} {v : Value} {xs : List Value} {t : TypeId} {cs : Array Value} (h : w.ownsRow B e size v n xs) (hk : Bk w k t cs) (ht : t ≠ e) : v.ownBlock ≠ some k := by
  intro e2
  rcases h.2 with ⟨rfl, _⟩ | ⟨g, cap, cur, rfl, _, hg, _⟩
  · simp [Value.ownBlock] at e2
  · simp [Value.ownBlock] at e2
    subst e2
    unfold Bk at hk
    rw [hk] at hg
    simp only [Option.some.injEq, Obj.cells.injEq] at hg
    exact ht hg.2.1
theorem bk_grown {w w' : World} {row : Option Nat} {k : Nat} {t : TypeId} {cs : Array Value} {o : Obj} (h : Bk w k t cs) (hg : (w.alloc o).grownBy w' row) (hne : row ≠ some k) : Bk w' k t cs :=
  (hg.block k (h.more o).lt (fun e => hne e.symm)).trans (h.more o)
theorem w5_facts (z2 : World) (V D : Array Value) (t : TypeId) : Ex z2 ((z2.alloc (.cells V t)).alloc (.cells D t)).drew ∧ Bk ((z2.alloc (.cells V t)).alloc (.cells D t)).drew (z2.heap.size + 1) t D ∧ ((z2.alloc (.cells V t)).alloc (.cells D t)).drew.heap.size = z2.heap.size + 1 + 1 :=
  ⟨(((Below.refl _ _).alloc (Nat.le_refl _) _).alloc (by simp) _).drew, Bk.new (w := z2.alloc (.cells V t)) (by simp) t D, by show ((z2.alloc (.cells V t)).alloc (.cells D t)).heap.size = _; simp⟩
set_option maxHeartbeats 8000000 in
set_option maxRecDepth 100000 in
theorem write_del7 (w : World) : Calls Tryd.prog 35 #[.agg delC.toArray] w fun e w' => e = .returned (.string ⟨([100, 101, 108, 105, 118, 101, 114] ++ [32, 55] : List UInt8).toArray⟩) ∧ Below w.heap.size w w' := by
  go_enter Tryd.func35, Tryd.ntmps35
  go_wp2_with ((with_reducible refine so4 [35, 1000 + 35] ?_ ?_); (focus rfl))
  have Q1 : Bk (w.alloc (.cells delC.toArray 37)) w.heap.size 37 delC.toArray := Bk.new rfl _ _
  have BB : Below w.heap.size w (w.alloc (.cells delC.toArray 37)) := (Below.refl _ _).alloc (Nat.le_refl _) _
  have hz1 : (w.alloc (.cells delC.toArray 37)).heap.size = w.heap.size + 1 := by simp
  (with_reducible refine ⟨?_⟩)
  change wpList _ _ _ _ _ (w.alloc (.cells delC.toArray 37))
  generalize (w.alloc (.cells delC.toArray 37)) = z0 at Q1 BB hz1 ⊢
  (with_reducible refine at_any ?_ ?_); (focus go_simp); refine fun K0 hK => wp_ldp (C := delC) delI _ w.heap.size 0 _ rfl rfl Q1 rfl Tryd.underlying35 rfl (by rw [sizeItem, delI_len]) (hK _ _ ?_)
  clear hK
  go_wp2_with ((with_reducible refine so4 [35, 1000 + 35] ?_ ?_); (focus rfl))
  have Q2 : Bk (z0.alloc (.cells Tryd.zeroCells35 35)) (w.heap.size + 1) 35 ((stepZ 0).take 65).toArray := Bk.new hz1.symm _ _
  have BB2 : Below w.heap.size w (z0.alloc (.cells Tryd.zeroCells35 35)) := BB.alloc (by omega) _
  (with_reducible refine ⟨?_⟩)
  change wpList _ _ _ _ _ (z0.alloc (.cells Tryd.zeroCells35 35))
  generalize (z0.alloc (.cells Tryd.zeroCells35 35)) = z1 at Q2 BB2 ⊢
  (with_reducible refine at_any ?_ ?_); (focus go_simp); refine fun K0 hK => wp_stp (C := (stepZ 0).take 65) delI _ _ (w.heap.size + 1) 0 rfl rfl rfl Q2 (by decide) (by rw [sizeItem, delI_len]) (by kernel_rfl) (fun z2 hd ho => hK _ _ ?_)
  clear hK
  have Q3 : Bk z2 (w.heap.size + 1) 35 delI.toArray := hd
  have BB3 : Below w.heap.size w z2 := ho.below _ (by omega) _ BB2
  clear hd ho Q1 Q2 BB BB2 hz1 z0 z1
  have c0 : z2.cell? ⟨w.heap.size + 1, 0, none⟩ = some (.int .i64 2) := by rw [Q3.cell]; rfl
  have hz2 := Q3.lt
  go_wp2
  go_region_with (go_at_call 10; refine (verbs_any _).mono ?_; rintro e w3 ⟨rfl, h3⟩; rw [verbA_eq] at h3; unfold verbA at h3; subst h3)
  all_goals (
    go_wp2_with (go_at_call 48; refine (numbers_any (w.heap.size + 1) _ 2 (by omega) _ (Q3.ext (w5_facts z2 _ _ _).1) rfl).mono ?_; rintro e w6 ⟨v, rfl, hv⟩; rw [show numsL 2 = [3] from rfl] at hv; obtain ⟨hb6, ad, rfl, had⟩ := off_open hv; clear hv; have X6 := Ex.trans (w5_facts z2 _ _ _).1 hb6; have D6 := (w5_facts z2 _ _ _).2.1.ext hb6; rw [(w5_facts z2 _ _ _).2.2] at had; clear hb6)
    obtain ⟨rfl, hP⟩ := had (by decide)
    have Q6 := Q3.ext X6
    have BB6 := BB3.trans (X6.mono (by omega))
    have O6 : w6.ownsRow (z2.heap.size + 1) 9 1 (.slice (some ⟨z2.heap.size + 1, 0, none⟩) 1 1) ([dB] : List ByteArray).length (([dB] : List ByteArray).map Value.string) := str_row (xs := [dB]) D6 (Nat.le_refl _) (by decide)
    clear D6 X6 c0 had
    obtain ⟨i0, hi, hz0, hz1, hz2⟩ := info_parts info9
    go_loopw [4, 26] (fun v i wr => ∃ (n : Nat) (xs : List ByteArray), i = .int .i64 (n : Int) ∧ ((n = 0 ∧ xs = [dB]) ∨ (n = 1 ∧ xs = [dB, s7])) ∧ wr.ownsRow (z2.heap.size + 1) 9 1 v xs.length (xs.map Value.string) ∧ Bk wr (w.heap.size + 1) 35 delI.toArray ∧ Bk wr (z2.heap.size + 1 + 1) 88 (offC (w.heap.size + 1) [3]) ∧ Below w.heap.size w wr)
      (fun _ i _ => 1 - ixOf i)
    case atStart => exact ⟨0, [dB], rfl, .inl ⟨rfl, rfl⟩, O6, Q6, hP, BB6⟩
    case round =>
      obtain ⟨n, xs, rfl, hn, hO, hQ, hPr, hBl⟩ := hrel
      clear O6 Q6 hP BB6
      rcases hn with ⟨rfl, rfl⟩ | ⟨rfl, rfl⟩
      · have hp0 : wr.cell? ⟨z2.heap.size + 1 + 1, 0, none⟩ = some (.pointer (some ⟨w.heap.size + 1, 3, none⟩)) := by rw [hPr.cell]; rfl
        have hc3 : wr.cell? ⟨w.heap.size + 1, 3, none⟩ = some (.int .i64 7) := by rw [hQ.cell]; rfl
        have hszr := hPr.lt
        obtain ⟨va, vc, rfl, hlen, _⟩ := own_len hO
        have hneP := own_ne_bk hO hPr (by decide)
        have hneQ := own_ne_bk hO hQ (by decide)
        go_wp2_with (first
          | (go_at_call 58; refine (Tryd.strconv_Itoa_small 7 (by decide) _).mono ?_; rintro e wr ⟨rfl, rfl⟩; rw [dec7])
          | (at_builtin; refine wpList_append_own _ rfl _ _ 22 rfl (z2.heap.size + 1) 9 i0 (.string ⟨#[]⟩) 1 16 Tryd.underlying22 hi hz0 hz1 hz2 rfl (by decide) _ _ _ rfl (hO.alloc _) ⟨wr.heap.size, 0, none⟩ 1 1 [.string ⟨#[55]⟩] rfl rfl ?c1 ?c2 ?c3 ?c4 ?c5 ?_))
        case c1 =>
          intro j u hj
          match j, hj with
          | 0, hj => simp at hj; subst hj; simp [Addr.add]
        case c2 => intro u hu; simp at hu; subst hu; rfl
        case c3 => unfold maxLen; simp
        case c4 => simp
        case c5 => simp; omega
        intro v' w3 hown3 hgrow3 _
        have hP3 := bk_grown hPr hgrow3 hneP
        have hQ3 := bk_grown hQ hgrow3 hneQ
        have hB3 : Below w.heap.size w w3 := (hBl.alloc (by omega) _).grown hgrow3 (by simp; omega) (fun k hk => by have := (hO.lt k hk).1; omega)
        have hO3 : w3.ownsRow (z2.heap.size + 1) 9 1 v' 2 (([dB, s7] : List ByteArray).map Value.string) := hown3

        go_wp2
        go_roundw
        case rel => exact ⟨1, [dB, s7], rfl, .inr ⟨rfl, rfl⟩, hO3, hQ3, hP3, hB3⟩
        case measure => simp [ixOf]
      · have hc0 : wr.cell? ⟨w.heap.size + 1, 0, none⟩ = some (.int .i64 2) := by rw [hQ.cell]; rfl
        have hszr := hPr.lt
        go_wp2_with (go_at_call 61; refine (row_join hO (by simp) rfl (by decide) _ (by decide)).mono ?_; rintro e w9 ⟨rfl, hb9⟩)
        go_ret
        exact ⟨rfl, hBl.trans (hb9.mono (by omega))⟩)
end Go.Proofs.YtgkmfhhoifbbbaaDoor
