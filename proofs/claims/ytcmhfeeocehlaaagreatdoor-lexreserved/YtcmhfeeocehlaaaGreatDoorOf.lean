/-
  Of, Valid, Int64 of the program.
-/
import Derived.Test.YtcmhfeeocehlaaaGreatDoorMul
namespace Go.Proofs.YtcmhfeeocehlaaaGreatDoor
set_option linter.unusedSimpArgs false
set_option linter.unusedVariables false
open Go.RowKit
attribute [local go_sem ↓] Go.wp_at_zero Go.wp_at_succ

theorem row_two (w : World) (g m : Nat) (hg : w.heap.size = g) : Row (w.alloc (.cells #[.int .u32 ((m : Int) % 4294967296), .int .u32 ((m : Int) / 4294967296)] 84)) g ([m % 4294967296, m / 4294967296] ++ []) := by
  subst hg
  refine ⟨[], ?_⟩
  rw [heap_alloc_new]
  simp [cl]
theorem lims_two {p q : Nat} (hp : p < 4294967296) (hq : q < 4294967296) : Lims [p, q] := by
  intro x hx; simp at hx; omega
theorem val_two (m : Nat) (h : m < 18446744073709551616) : val [m % 4294967296, m / 4294967296] = m := by
  simp only [val, B32_eq]; omega
theorem wrap_neg (m : Nat) (h : m ≤ 9223372036854775808) (h0 : 0 < m) : IntKind.u64.wrap (-IntKind.u64.wrap (-(m : Int))) = m := by
  simp only [IntKind.wrap, IntKind.signed, IntKind.bits]
  simp
  omega

/-- an integer stands as it should -/
def Std (s : Bool) (l : List Nat) : Bool := if l.length = 0 then !s else decide ((tr l).length = l.length)

end Go.Proofs.YtcmhfeeocehlaaaGreatDoor
