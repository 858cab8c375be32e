/-
  divideBy: limbs divided by a limb, in their place.
-/
import Derived.Test.YtcmhfeeocehlaaaGreatDoorOf
import Derived.Laws.BitsAllLaws
namespace Go.Proofs.YtcmhfeeocehlaaaGreatDoor
set_option linter.unusedSimpArgs false
set_option linter.unusedVariables false
open Go.RowKit

theorem or_nat (r p : Nat) (hp : p < 4294967296) : r * 4294967296 ||| p = r * 4294967296 + p := by
  have h := Nat.shiftLeft_add_eq_or_of_lt (i := 32) (b := p) (show p < 2 ^ 32 by simpa using hp) r
  rw [Nat.shiftLeft_eq] at h
  have e : (2 : Nat) ^ 32 = 4294967296 := by decide
  rw [e] at h
  exact h.symm
theorem or_hi (r p : Nat) (hr : r < 4294967296) (hp : p < 4294967296) : bits .or .u64 ((r : Int) * 4294967296) (p : Int) = ((r * 4294967296 + p : Nat) : Int) := by
  have h := u64_or_nat (r * 4294967296) p (by omega) (by omega)
  rw [or_nat r p hp] at h
  rw [← h]
  simp

theorem step_gen (b : Nat) {X Q dv r p q s : Nat} (h : X = Q * dv + r) (h2 : dv * q + s = r * b + p) : p + b * X = (q + b * Q) * dv + s := by
  subst h
  grind

theorem divBy_step {out Q : List Nat} {m r dv p : Nat} (hm : m < out.length) (hp : out.getD m 0 = p) (h : val (out.drop (m + 1)) = val Q * dv + r) (hd : 0 < dv) :
    val (out.drop m) = val ((r * 4294967296 + p) / dv :: Q) * dv + (r * 4294967296 + p) % dv := by
  have e : out.drop m = p :: out.drop (m + 1) := by
    rw [List.drop_eq_getElem_cons hm, ← hp, List.getD_eq_getElem?_getD, List.getElem?_eq_getElem hm]; rfl
  rw [e]
  simp only [val]
  exact step_gen B32 h (by rw [B32_eq]; exact Nat.div_add_mod _ _)

def DivByPost (w : World) (g dv : Nat) (out S : List Nat) (e : Ending) (w' : World) : Prop :=
  ∃ N r, e = .returned (.int .u32 ((r : Nat) : Int)) ∧ Row w' g (N ++ S) ∧ N.length = out.length ∧ Lims N ∧ r < dv ∧ val out = val N * dv + r ∧ w.grownBy w' (some g)

end Go.Proofs.YtcmhfeeocehlaaaGreatDoor
