/-
  sum of any two, difference: of limbs, in new memory.
-/
import Derived.Test.YtcmhfeeocehlaaaGreatDoorSum
namespace Go.Proofs.YtcmhfeeocehlaaaGreatDoor
set_option linter.unusedSimpArgs false
set_option linter.unusedVariables false
open Go.RowKit

/-- what sum answers -/
def SumPost (w : World) (x y : List Nat) (e : Ending) (w' : World) : Prop :=
  ∃ a n N, e = .returned (.slice a n n) ∧ OW w' w.heap.size a n n N ∧ (N = [] → a ≠ none) ∧ val N = val x + val y ∧ n ≤ x.length + y.length + 1 ∧ w.grownBy w' none

theorem diff_val {x y N : List Nat} {n lack : Nat} (hx : x.length = n) (hN : N.length = n) (lN : Lims N) (hle : val y ≤ val x) (h : val N + 1 * val y = val x + B32 ^ x.length * lack) : val N = val x - val y := by
  have h1 := val_lt N lN
  rw [hN] at h1
  rw [hx] at h
  generalize B32 ^ n = p at *
  by_cases hc : lack = 0
  · subst hc; rw [Nat.mul_zero] at h; omega
  · have h4 : p ≤ p * lack := Nat.le_mul_of_pos_right p (by omega)
    generalize p * lack = r at *
    omega

/-- what difference answers -/
def DiffPost (w : World) (x y : List Nat) (e : Ending) (w' : World) : Prop :=
  ∃ a n N, e = .returned (.slice a n n) ∧ OW w' w.heap.size a n n N ∧ val N = val x - val y ∧ n = x.length ∧ w.grownBy w' none

end Go.Proofs.YtcmhfeeocehlaaaGreatDoor
