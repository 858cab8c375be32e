/-
  cmp.Compare, compare: which of two is below the other.
-/
import Derived.Test.YtcmhfeeocehlaaaGreatDoorClone
namespace Go.Proofs.YtcmhfeeocehlaaaGreatDoor
set_option linter.unusedSimpArgs false
set_option linter.unusedVariables false
open Go.RowKit

/-- -1, 0, 1 -/
def sgn (z : Int) : Int := if z < 0 then -1 else if z = 0 then 0 else 1

theorem drop_step {x y : List Nat} {m : Nat} (hx : m < x.length) (hy : m < y.length) (h : x.getD m 0 = y.getD m 0) (hd : x.drop (m + 1) = y.drop (m + 1)) : x.drop m = y.drop m := by
  rw [List.drop_eq_getElem_cons hx, List.drop_eq_getElem_cons hy, hd]
  simp only [List.getD_eq_getElem?_getD, List.getElem?_eq_getElem hx, List.getElem?_eq_getElem hy, Option.getD_some] at h
  rw [h]

def CmpPost (w : World) (x y : List Nat) (e : Ending) (w' : World) : Prop := e = .returned (.int .i64 (sgn ((val x : Int) - val y))) ∧ w.grownBy w' none

end Go.Proofs.YtcmhfeeocehlaaaGreatDoor
