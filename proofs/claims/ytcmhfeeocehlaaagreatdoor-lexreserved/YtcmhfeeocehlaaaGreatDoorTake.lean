/-
  takeMultiple: a multiple is taken from limbs in their place.
-/
import Derived.Test.YtcmhfeeocehlaaaGreatDoorAddto
import Derived.Test.YtcmhfeeocehlaaaGreatDoorMath2
namespace Go.Proofs.YtcmhfeeocehlaaaGreatDoor
set_option linter.unusedSimpArgs false
set_option linter.unusedVariables false
open Go.RowKit

def TakePost (w : World) (g off dg : Nat) (P out S y : List Nat) (e : Ending) (w' : World) : Prop :=
  ∃ N lack, e = .returned (.int .u64 ((lack : Nat) : Int)) ∧ Row w' g (P ++ N ++ S) ∧ N.length = out.length ∧ Lims N ∧ lack ≤ 4294967295 ∧ val N + dg * val y = val out + B32 ^ out.length * lack ∧ w.grownBy w' (some g)

end Go.Proofs.YtcmhfeeocehlaaaGreatDoor
