/-
  addInto, takeMultiple: what is laid over limbs in their place.
-/
import Derived.Test.YtcmhfeeocehlaaaGreatDoorCmpr
namespace Go.Proofs.YtcmhfeeocehlaaaGreatDoor
set_option linter.unusedSimpArgs false
set_option linter.unusedVariables false
open Go.RowKit

/-- what addInto leaves: the window of block g from off on holds the sum -/
def AddPost (w : World) (g off : Nat) (P out S y : List Nat) (e : Ending) (w' : World) : Prop :=
  ∃ N c, e = .returned (.tuple #[]) ∧ Row w' g (P ++ N ++ S) ∧ N.length = out.length ∧ Lims N ∧ c ≤ 1 ∧ val N + B32 ^ out.length * c = val out + val y ∧ w.grownBy w' (some g)

end Go.Proofs.YtcmhfeeocehlaaaGreatDoor
