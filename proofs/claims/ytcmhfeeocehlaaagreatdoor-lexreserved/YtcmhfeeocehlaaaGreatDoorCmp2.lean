/-
  Cmp, Valid of the program.
-/
import Derived.Test.YtcmhfeeocehlaaaGreatDoorInts
namespace Go.Proofs.YtcmhfeeocehlaaaGreatDoor
set_option linter.unusedSimpArgs false
set_option linter.unusedVariables false
open Go.RowKit
attribute [local go_sem ↓] Go.wp_at_zero Go.wp_at_succ

theorem cmp_signs (s t : Bool) (x y : List Nat) (h : sgn (iv s x) ≠ sgn (iv t y)) : sgn (sgn (iv s x) - sgn (iv t y)) = sgn (iv s x - iv t y) := by
  generalize iv s x = p at *
  generalize iv t y = q at *
  unfold sgn at *
  repeat' split at h
  all_goals (repeat' split) <;> omega
theorem cmp_pos (s t : Bool) (x y : List Nat) (h : sgn (iv s x) = sgn (iv t y)) (hp : ¬ sgn (iv s x) < 0) : sgn ((val (tr x) : Int) - val (tr y)) = sgn (iv s x - iv t y) := by
  rw [val_tr, val_tr]
  cases s <;> cases t <;> simp only [iv, if_true, if_false, Bool.false_eq_true] at * <;> unfold sgn at * <;> (repeat' split at h) <;> (repeat' split) <;> omega
theorem cmp_neg (s t : Bool) (x y : List Nat) (h : sgn (iv s x) = sgn (iv t y)) (hp : sgn (iv s x) < 0) : sgn ((val (tr y) : Int) - val (tr x)) = sgn (iv s x - iv t y) := by
  rw [val_tr, val_tr]
  cases s <;> cases t <;> simp only [iv, if_true, if_false, Bool.false_eq_true] at * <;> unfold sgn at * <;> (repeat' split at h) <;> (repeat' split) <;> omega

end Go.Proofs.YtcmhfeeocehlaaaGreatDoor
