/-
  Add of the program.
-/
import Derived.Test.YtcmhfeeocehlaaaGreatDoorCmp2
namespace Go.Proofs.YtcmhfeeocehlaaaGreatDoor
set_option linter.unusedSimpArgs false
set_option linter.unusedVariables false
open Go.RowKit
attribute [local go_sem ↓] Go.wp_at_zero Go.wp_at_succ

theorem tr_le (l : List Nat) : (tr l).length ≤ l.length := by rw [tr_length]; exact tl_le _ _

theorem add_same {s : Bool} {x y N : List Nat} (h : val N = val (tr x) + val (tr y)) : iv s N = iv s x + iv s y := by
  rw [val_tr, val_tr] at h
  cases s <;> simp only [iv, if_true, if_false, Bool.false_eq_true] <;> omega
theorem add_diff {s : Bool} {x y N : List Nat} (h : val N = val (tr x) - val (tr y)) (hle : val y ≤ val x) : iv s N = iv s x + iv (!s) y := by
  rw [val_tr, val_tr] at h
  cases s <;> simp only [iv, if_true, if_false, Bool.false_eq_true, Bool.not_true, Bool.not_false] <;> omega

end Go.Proofs.YtcmhfeeocehlaaaGreatDoor
