/-
  Plain mathematics of limbs, more: what is taken, what is multiplied.
-/
import Derived.Test.YtcmhfeeocehlaaaGreatDoorMath
namespace Go.Proofs.YtcmhfeeocehlaaaGreatDoor
set_option linter.unusedSimpArgs false
set_option linter.unusedVariables false

theorem borrow_step {N : List Nat} {k lack lack' d dg p q X Y : Nat} (hk : N.length = k) (h : val N + dg * Y = X + B32 ^ k * lack) (e : d + (lack + dg * q) = p + B32 * lack') :
    val (N ++ [d]) + dg * (Y + B32 ^ k * q) = (X + B32 ^ k * p) + B32 ^ (k + 1) * lack' := by
  subst hk
  rw [val_snoc, Nat.pow_succ]
  have : B32 ^ N.length * (d + (lack + dg * q)) = B32 ^ N.length * (p + B32 * lack') := by rw [e]
  grind

/-- a limb of a product row: N so far, carry c; the next limbs: o (there already), f times q -/
theorem mul_step {N : List Nat} {k c c' d f o q X Y : Nat} (hk : N.length = k) (h : val N + B32 ^ k * c = X + f * Y) (e : c + (f * q + o) = d + B32 * c') :
    val (N ++ [d]) + B32 ^ (k + 1) * c' = (X + B32 ^ k * o) + f * (Y + B32 ^ k * q) := by
  subst hk
  rw [val_snoc, Nat.pow_succ]
  have : B32 ^ N.length * (c + (f * q + o)) = B32 ^ N.length * (d + B32 * c') := by rw [e]
  grind

theorem mul_lt {a b : Nat} (ha : a ≤ 4294967295) (hb : b ≤ 4294967295) : a * b ≤ 18446744065119617025 := by
  have := Nat.mul_le_mul ha hb
  omega

/-- a row of a product is done -/
theorem row_done {P N : List Nat} {i c f V Y X mid : Nat} (hP : P.length = i) (hN : val N + B32 ^ N.length * c = mid + f * Y) (hA : val P + B32 ^ i * mid = X * Y) (hV : V = X + B32 ^ i * f) :
    val (P ++ N ++ [c]) = V * Y := by
  subst hV; subst hP
  rw [val_snoc, val_append, List.length_append, Nat.pow_add]
  have : B32 ^ P.length * (val N + B32 ^ N.length * c) = B32 ^ P.length * (mid + f * Y) := by rw [hN]
  grind

theorem val_replicate_zero (n : Nat) : val (List.replicate n 0) = 0 := by
  induction n with
  | zero => rfl
  | succ n ih => simp [List.replicate_succ, val, ih]
theorem lims_replicate (n : Nat) : Lims (List.replicate n 0) := by
  intro x hx
  have := List.eq_of_mem_replicate hx
  omega
theorem lims_drop {l : List Nat} (h : Lims l) (k : Nat) : Lims (l.drop k) := fun x hx => h x (List.mem_of_mem_drop hx)
end Go.Proofs.YtcmhfeeocehlaaaGreatDoor
