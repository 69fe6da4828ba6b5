/- play of chapter 21 walked -/
import Derived.Test.YtedljddjmojeeaaPrA
import Derived.Test.YtedljddjmojeeaaPrB
import Derived.Test.YtedljddjmojeeaaPrC
import Derived.Test.YtedljddjmojeeaaPrD
import Derived.Test.YtedljddjmojeeaaPrE
import Derived.Test.YtedljddjmojeeaaPrF
namespace Go.Proofs.Ytedljddjmojeeaa
open Go.RowKit
set_option maxHeartbeats 4000000 in
set_option maxRecDepth 100000 in
theorem p21_loop (w : World) (ad : Option Addr) (cap n : Nat) (most : Int) (l : List Ak) (O : Nat) (hL : n ≤ 9223372036854775807) (hin : Ap.In ad cap l w) (hnl : n = l.length) (a : Act) (wr : World) (h : p21I w ad cap n most l O a wr) (Q0 : Exit → Act → World → Prop) (hexit : ∀ a' w'', p21I w ad cap n most l O a' w'' → Q0 (.exit 0) a' w'') : Code.wp Try.prog (Code.loop p21Body) Q0 a wr := by
  refine wp_loop (p21I w ad cap n most l O) (p21M n) h (fun a wr h => ?_)
  obtain ⟨mv, hv, k, ls, y, ⟨hk, P⟩, ea⟩ := h.lit
  rw [ea]
  clear ea h
  by_cases hlt : k < n
  · by_cases hmo : (k : Int) < most
    · obtain ⟨A0, hA0⟩ : ∃ A, l[k]? = some A := ⟨_, List.getElem?_eq_getElem (by rw [← hnl]; exact hlt)⟩
      by_cases h4 : A0.kind = 4
      · exact p21_4 w ad cap n most l O mv hv k ls y wr hk P hL hin hnl hmo A0 hA0 hlt h4 Q0 hexit
      by_cases h5 : A0.kind = 5
      · exact p21_5 w ad cap n most l O mv hv k ls y wr hk P hL hin hnl hmo A0 hA0 hlt h5 Q0 hexit
      by_cases h6 : A0.kind = 6
      · exact p21_6 w ad cap n most l O mv hv k ls y wr hk P hL hin hnl hmo A0 hA0 hlt h6 Q0 hexit
      by_cases h7 : A0.kind = 7
      · exact p21_7 w ad cap n most l O mv hv k ls y wr hk P hL hin hnl hmo A0 hA0 hlt h7 Q0 hexit
      by_cases h8 : A0.kind = 8
      · exact p21_8 w ad cap n most l O mv hv k ls y wr hk P hL hin hnl hmo A0 hA0 hlt h8 Q0 hexit
      exact p21_put w ad cap n most l O mv hv k ls y wr hk P hL hin hnl hmo A0 hA0 hlt ⟨h4, h5, h6, h7, h8⟩ Q0 hexit
    · have q0 : (0 : Int) ≤ (k : Int) := by omega
      have q1 : (k : Int) < (n : Int) := by omega
      clear hnl hin
      conv => arg 2; whnf
      go_wp2_with (first | (with_reducible refine stop_load (t := 70) ?_) | (with_reducible refine stop_store (t := 70) ?_) | (with_reducible refine stop_load (t := 72) ?_) | (with_reducible refine stop_store (t := 72) ?_) | (with_reducible refine stop_build (t := 70) ?_))
      exact ⟨_, _, k, ls, ⟨hk, P⟩, rfl, rfl, rfl, rfl, rfl, rfl, rfl, rfl, rfl⟩
  · have q1 : ¬ (k : Int) < (n : Int) := by omega
    clear hnl hin
    conv => arg 2; whnf
    go_wp2_with (first | (with_reducible refine stop_load (t := 70) ?_) | (with_reducible refine stop_store (t := 70) ?_) | (with_reducible refine stop_load (t := 72) ?_) | (with_reducible refine stop_store (t := 72) ?_) | (with_reducible refine stop_build (t := 70) ?_))
    exact ⟨_, _, k, ls, ⟨hk, P⟩, rfl, rfl, rfl, rfl, rfl, rfl, rfl, rfl, rfl⟩
set_option maxHeartbeats 4000000 in
set_option maxRecDepth 100000 in
theorem play21 (ad : Option Addr) (cap : Nat) (l : List Ak) (hL : l.length ≤ 9223372036854775807) (most : Int) (w : World) (hin : Ap.In ad cap l w) : Calls Try.prog 30 #[.slice ad l.length cap, .int .i64 most] w fun e w' => e = .returned (.bool true) ∧ Ex w w' := by
  obtain ⟨n, hn⟩ : ∃ n, n = l.length := ⟨_, rfl⟩
  rw [← hn] at hL ⊢
  have HIN := Lib.hid hin
  have HNL := Lib.hid hn
  clear hn hin
  go_enter Try.func30, Try.ntmps30
  go_wp2_with (first | (with_reducible refine stop_load (t := 70) ?_) | (with_reducible refine stop_store (t := 70) ?_) | (with_reducible refine stop_load (t := 72) ?_) | (with_reducible refine stop_store (t := 72) ?_) | (with_reducible refine stop_build (t := 70) ?_))
  refine (pnew_any w).mono ?_
  rintro e w1 ⟨O, rfl, hO, hof, xx⟩
  have P : Hid (Pst w w1 O (ctO []) [] (.slice none 0 0) (.slice none 0 0)) := Lib.hid ⟨hO, hof, World.ownsRow_nil _ _ _ _, World.ownsRow_nil _ _ _ _, fun i x hx => by simp at hx, xx⟩
  clear hO hof xx
  go_wp2_with (first | (with_reducible refine stop_load (t := 70) ?_) | (with_reducible refine stop_store (t := 70) ?_) | (with_reducible refine stop_load (t := 72) ?_) | (with_reducible refine stop_store (t := 72) ?_) | (with_reducible refine stop_build (t := 70) ?_))
  refine p21_loop w ad cap n most l O hL HIN.out HNL.out _ _ ⟨.slice none 0 0, .slice none 0 0, 0, [], ⟨Nat.zero_le _, P⟩, rfl, rfl, rfl, rfl, rfl, rfl, rfl, rfl, rfl⟩ _ (fun a1 w1 h => ?_)
  clear P
  obtain ⟨mv, hv, k, ls, y, ⟨hk, P⟩, ea⟩ := h.lit
  subst ea
  clear h
  go_wp2_with (first | (with_reducible refine stop_load (t := 70) ?_) | (with_reducible refine stop_store (t := 70) ?_) | (with_reducible refine stop_load (t := 72) ?_) | (with_reducible refine stop_store (t := 72) ?_) | (with_reducible refine stop_build (t := 70) ?_))
  go_ret
  exact ⟨rfl, P.out.ext⟩
end Go.Proofs.Ytedljddjmojeeaa
