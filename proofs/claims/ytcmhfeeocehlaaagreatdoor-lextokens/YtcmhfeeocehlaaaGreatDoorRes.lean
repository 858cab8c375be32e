/-
  The reserved words, in the program and in the reference.
-/
import Derived.Test.YtcmhfeeocehlaaaGreatDoorSpecA
namespace Go.Proofs.YtcmhfeeocehlaaaGreatDoor
set_option linter.unusedSimpArgs false
set_option linter.unusedVariables false
open Go.RowKit Go.PlainAid
attribute [local go_sem ↓] Go.wp_at_zero Go.wp_at_succ

set_option maxHeartbeats 8000000 in
set_option maxRecDepth 100000 in
theorem reserved_raw (s : ByteArray) (w : World) : Calls Tryz.prog 11 #[.string s] w fun e w' => e = .returned (.bool (resv s.data.toList)) ∧ w' = w := by
  rw [← Lib.toList_data]
  go_enter Tryz.func11, Tryz.ntmps11
  go_wp2
  all_goals (simp only [beq_iff_eq, beq_eq_false_iff_ne, ne_eq] at *)
  all_goals (first | contradiction | (go_ret; exact ⟨ret_bool (by simp [resv, resL, *]), rfl⟩))
set_option maxHeartbeats 8000000 in
set_option maxRecDepth 100000 in
theorem rreserved_raw (s : ByteArray) (w : World) : Calls Tryz.prog 12 #[.string s] w fun e w' => e = .returned (.bool (resv s.data.toList)) ∧ w' = w := by
  rw [← Lib.toList_data]
  go_enter Tryz.func12, Tryz.ntmps12
  go_wp2
  all_goals (simp only [beq_iff_eq, beq_eq_false_iff_ne, ne_eq] at *)
  all_goals (first | contradiction | (go_ret; exact ⟨ret_bool (by simp [resv, resL, *]), rfl⟩))
end Go.Proofs.YtcmhfeeocehlaaaGreatDoor
