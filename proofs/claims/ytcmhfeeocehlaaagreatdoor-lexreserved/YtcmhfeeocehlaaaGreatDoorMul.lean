/-
  Sub, Mul of the program.
-/
import Derived.Test.YtcmhfeeocehlaaaGreatDoorAdd
namespace Go.Proofs.YtcmhfeeocehlaaaGreatDoor
set_option linter.unusedSimpArgs false
set_option linter.unusedVariables false
open Go.RowKit
attribute [local go_sem ↓] Go.wp_at_zero Go.wp_at_succ

theorem mul_iv {s t : Bool} {x y N : List Nat} (h : val N = val (tr x) * val (tr y)) : iv (s != t) N = iv s x * iv t y := by
  rw [val_tr, val_tr] at h
  cases s <;> cases t <;> simp [iv, h, Int.mul_neg, Int.neg_mul]

end Go.Proofs.YtcmhfeeocehlaaaGreatDoor
