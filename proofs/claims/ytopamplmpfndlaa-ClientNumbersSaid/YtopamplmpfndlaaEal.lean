/- MBlF -/
import Derived.Test.YtopamplmpfndlaaEaj
set_option maxRecDepth 100000
set_option maxHeartbeats 16000000
namespace Go.Proofs.Ytopamplmpfndlaa.Sm
open Go.RowKit
def strB (kl : List UInt8) (n : Int) (j : Nat) : List UInt8 := (List.range j).flatMap fun (i : Nat) => sumL (kl ++ (numL n ++ numL (i : Int)))
theorem strB_succ (kl : List UInt8) (n : Int) (j : Nat) : strB kl n (j + 1) = strB kl n j ++ sumL (kl ++ (numL n ++ numL (j : Int))) := by
 unfold strB; rw [List.range_succ]; simp
theorem strB_len (kl : List UInt8) (n : Int) : ∀ j, (strB kl n j).length = 16 * j
 | 0 => rfl
 | j + 1 => by rw [strB_succ, List.length_append, strB_len kl n j, sumL_len]; omega
def streamL (kl : List UInt8) (n : Int) (m : Nat) : List UInt8 := (strB kl n ((m + 15) / 16)).take m
end Go.Proofs.Ytopamplmpfndlaa.Sm
