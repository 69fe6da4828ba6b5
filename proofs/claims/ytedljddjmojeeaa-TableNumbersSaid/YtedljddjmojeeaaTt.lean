/- play of chapter 12; TablePlays -/
import Derived.Test.YtedljddjmojeeaaTsA
import Derived.Test.YtedljddjmojeeaaTsB
import Derived.Test.YtedljddjmojeeaaTsC
import Derived.Test.YtedljddjmojeeaaTsD
import Derived.Test.YtedljddjmojeeaaTsE
import Derived.Test.YtedljddjmojeeaaTsF
import Derived.Test.YtedljddjmojeeaaTsG
import Derived.Test.YtedljddjmojeeaaTsH
namespace Go.Proofs.Ytedljddjmojeeaa
open Go.RowKit
set_option maxHeartbeats 4000000 in
set_option maxRecDepth 100000 in
theorem p12_loop (w : World) (ad : Option Addr) (cap n : Nat) (l : List At) (D : Nat) (hL : n ≤ 9223372036854775807) (hin : Atp.In ad cap l w) (hnl : n = l.length) (a : Act) (wr : World) (h : p12I w ad cap n l D a wr) (Q0 : Exit → Act → World → Prop) (hexit : ∀ a' w'', p12I w ad cap n l D a' w'' → Q0 (.exit 0) a' w'') : Code.wp Try.prog (Code.loop p12Body) Q0 a wr := by
  refine wp_loop (p12I w ad cap n l D) (p12M n) h (fun a wr h => ?_)
  obtain ⟨mv, rv, k, vs, ms, y, ⟨hk, P⟩, ea⟩ := h.lit
  rw [ea]
  clear ea h
  by_cases hlt : k < n
  · by_cases h50 : k < 50
    · obtain ⟨A, hA⟩ : ∃ A, l[k]? = some A := ⟨_, List.getElem?_eq_getElem (by rw [← hnl]; exact hlt)⟩
      by_cases h6 : A.v.id.tmod 7 = 6
      all_goals (by_cases h4 : A.kind = 4)
      · exact p12_B w ad cap n l D mv rv k vs ms y wr hk P hL hin hnl h50 A hA hlt h4 h6 Q0 hexit
      · by_cases h5 : A.kind = 5
        · by_cases hsm : A.l.length ≤ 6
          · exact p12_G w ad cap n l D mv rv k vs ms y wr hk P hL hin hnl h50 A hA hlt h5 h6 hsm Q0 hexit
          · exact p12_H w ad cap n l D mv rv k vs ms y wr hk P hL hin hnl h50 A hA hlt h5 h6 (Nat.lt_of_not_le hsm) Q0 hexit
        · exact p12_D w ad cap n l D mv rv k vs ms y wr hk P hL hin hnl h50 A hA hlt ⟨h4, h5⟩ h6 Q0 hexit
      · exact p12_A w ad cap n l D mv rv k vs ms y wr hk P hL hin hnl h50 A hA hlt h4 h6 Q0 hexit
      · by_cases h5 : A.kind = 5
        · by_cases hsm : A.l.length ≤ 6
          · exact p12_E w ad cap n l D mv rv k vs ms y wr hk P hL hin hnl h50 A hA hlt h5 h6 hsm Q0 hexit
          · exact p12_F w ad cap n l D mv rv k vs ms y wr hk P hL hin hnl h50 A hA hlt h5 h6 (Nat.lt_of_not_le hsm) Q0 hexit
        · exact p12_C w ad cap n l D mv rv k vs ms y wr hk P hL hin hnl h50 A hA hlt ⟨h4, h5⟩ h6 Q0 hexit
    · have q0 : (0 : Int) ≤ (k : Int) := by omega
      have q1 : (k : Int) < (n : Int) := by omega
      have q2 : ¬ (k : Int) < 50 := by omega
      clear hnl hin
      conv => arg 2; whnf
      go_wp2_with (first | (with_reducible refine stop_load (t := 30) ?_) | (with_reducible refine stop_store (t := 30) ?_) | (with_reducible refine stop_load (t := 24) ?_) | (with_reducible refine stop_store (t := 24) ?_) | (with_reducible refine stop_load (t := 48) ?_) | (with_reducible refine stop_store (t := 48) ?_) | (with_reducible refine stop_load (t := 51) ?_) | (with_reducible refine stop_store (t := 51) ?_) | (with_reducible refine stop_build (t := 30) ?_) | (with_reducible refine stop_bs (t := 59) ?_) | (with_reducible refine stop_app ?_))
      exact ⟨mv, rv, k, vs, ms, ⟨hk, P⟩, rfl, rfl, rfl, rfl, rfl, rfl, rfl⟩
  · have q0 : (0 : Int) ≤ (k : Int) := by omega
    have q1 : ¬ (k : Int) < (n : Int) := by omega
    clear hnl hin
    conv => arg 2; whnf
    go_wp2_with (first | (with_reducible refine stop_load (t := 30) ?_) | (with_reducible refine stop_store (t := 30) ?_) | (with_reducible refine stop_load (t := 24) ?_) | (with_reducible refine stop_store (t := 24) ?_) | (with_reducible refine stop_load (t := 48) ?_) | (with_reducible refine stop_store (t := 48) ?_) | (with_reducible refine stop_load (t := 51) ?_) | (with_reducible refine stop_store (t := 51) ?_) | (with_reducible refine stop_build (t := 30) ?_) | (with_reducible refine stop_bs (t := 59) ?_) | (with_reducible refine stop_app ?_))
    exact ⟨mv, rv, k, vs, ms, ⟨hk, P⟩, rfl, rfl, rfl, rfl, rfl, rfl, rfl⟩
set_option maxHeartbeats 4000000 in
set_option maxRecDepth 100000 in
theorem play12 (ad : Option Addr) (cap : Nat) (l : List At) (hL : l.length ≤ 9223372036854775807) (w : World) (hin : Atp.In ad cap l w) : Calls Try.prog 19 #[.slice ad l.length cap] w fun e w' => e = .returned (.bool true) ∧ Ex w w' := by
  obtain ⟨n, hn⟩ : ∃ n, n = l.length := ⟨_, rfl⟩
  rw [← hn] at hL ⊢
  have HIN := Lib.hid hin
  have HNL := Lib.hid hn
  clear hn hin
  go_enter Try.func19, Try.ntmps19
  go_wp2_with (first | (with_reducible refine stop_load (t := 30) ?_) | (with_reducible refine stop_store (t := 30) ?_) | (with_reducible refine stop_load (t := 24) ?_) | (with_reducible refine stop_store (t := 24) ?_) | (with_reducible refine stop_load (t := 48) ?_) | (with_reducible refine stop_store (t := 48) ?_) | (with_reducible refine stop_load (t := 51) ?_) | (with_reducible refine stop_store (t := 51) ?_) | (with_reducible refine stop_build (t := 30) ?_) | (with_reducible refine stop_bs (t := 59) ?_) | (with_reducible refine stop_app ?_))
  refine (tnew_any w).mono ?_
  rintro e w1 ⟨D, rfl, hD, ht, xx⟩
  have P : Hid (PS w w1 D (.slice none 0 0) [] (.slice none 0 0) []) := Lib.hid ⟨ht, World.ownsRow_nil _ _ _ _, fun x hx => (by cases hx), rfl, fun g hg => (by cases hg), hD, xx⟩
  clear hD ht xx
  go_wp2_with (first | (with_reducible refine stop_load (t := 30) ?_) | (with_reducible refine stop_store (t := 30) ?_) | (with_reducible refine stop_load (t := 24) ?_) | (with_reducible refine stop_store (t := 24) ?_) | (with_reducible refine stop_load (t := 48) ?_) | (with_reducible refine stop_store (t := 48) ?_) | (with_reducible refine stop_load (t := 51) ?_) | (with_reducible refine stop_store (t := 51) ?_) | (with_reducible refine stop_build (t := 30) ?_) | (with_reducible refine stop_bs (t := 59) ?_) | (with_reducible refine stop_app ?_))
  refine p12_loop w ad cap n l D hL HIN.out HNL.out _ _ ⟨.slice none 0 0, .slice none 0 0, 0, [], [], ⟨Nat.zero_le _, P⟩, rfl, rfl, rfl, rfl, rfl, rfl, rfl⟩ _ (fun a1 w1 h => ?_)
  clear P
  obtain ⟨mv, rv, k, vs, ms, y, ⟨hk, P⟩, ea⟩ := h.lit
  subst ea
  clear h
  go_wp2_with (first | (with_reducible refine stop_load (t := 30) ?_) | (with_reducible refine stop_store (t := 30) ?_) | (with_reducible refine stop_load (t := 24) ?_) | (with_reducible refine stop_store (t := 24) ?_) | (with_reducible refine stop_load (t := 48) ?_) | (with_reducible refine stop_store (t := 48) ?_) | (with_reducible refine stop_load (t := 51) ?_) | (with_reducible refine stop_store (t := 51) ?_) | (with_reducible refine stop_build (t := 30) ?_) | (with_reducible refine stop_bs (t := 59) ?_) | (with_reducible refine stop_app ?_))
  go_ret
  exact ⟨rfl, P.out.ex⟩
set_option maxHeartbeats 4000000 in
set_option maxRecDepth 100000 in
theorem plays12_any (ad : Option Addr) (cap : Nat) (l : List At) (hL : l.length ≤ 9223372036854775807) (w : World) (hin : Atp.In ad cap l w) : Calls Try.prog 6 #[.slice ad l.length cap] w fun e w' => e = .returned (.bool true) ∧ Ex w w' := by
  have CP := Lib.hid (play12 ad cap l hL w hin)
  generalize l.length = n at *
  clear hin
  go_enter Try.func6, Try.ntmps6
  go_wp2_with (first | (with_reducible refine stop_load (t := 30) ?_) | (with_reducible refine stop_store (t := 30) ?_) | (with_reducible refine stop_load (t := 24) ?_) | (with_reducible refine stop_store (t := 24) ?_) | (with_reducible refine stop_load (t := 48) ?_) | (with_reducible refine stop_store (t := 48) ?_) | (with_reducible refine stop_load (t := 51) ?_) | (with_reducible refine stop_store (t := 51) ?_) | (with_reducible refine stop_build (t := 30) ?_) | (with_reducible refine stop_bs (t := 59) ?_) | (with_reducible refine stop_app ?_))
  refine CP.out.mono ?_
  rintro e w1 ⟨rfl, x1⟩
  have BX := Lib.hid x1
  clear x1
  go_wp2_with (first | (with_reducible refine stop_load (t := 30) ?_) | (with_reducible refine stop_store (t := 30) ?_) | (with_reducible refine stop_load (t := 24) ?_) | (with_reducible refine stop_store (t := 24) ?_) | (with_reducible refine stop_load (t := 48) ?_) | (with_reducible refine stop_store (t := 48) ?_) | (with_reducible refine stop_load (t := 51) ?_) | (with_reducible refine stop_store (t := 51) ?_) | (with_reducible refine stop_build (t := 30) ?_) | (with_reducible refine stop_bs (t := 59) ?_) | (with_reducible refine stop_app ?_))
  refine (known12 w1).mono ?_
  rintro e w2 ⟨rfl, x2⟩
  replace BX := Lib.hid (Ex.trans BX.out x2)
  clear x2
  go_wp2_with fail
  go_ret
  exact ⟨rfl, BX.out⟩
end Go.Proofs.Ytedljddjmojeeaa
