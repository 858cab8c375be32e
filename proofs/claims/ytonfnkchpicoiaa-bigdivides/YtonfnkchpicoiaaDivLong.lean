/-
  divideLong: limb by limb, as by hand.
-/
import Derived.Test.YtonfnkchpicoiaaGuess
namespace Go.Proofs.Ytonfnkchpicoiaa
set_option linter.unusedSimpArgs false
set_option linter.unusedVariables false
open Go.RowKit
attribute [local go_sem ↓] Go.wp_at_zero Go.wp_at_succ

theorem divl_step {pv Bj u N W q V Qv X B : Nat} (hR : pv + Bj * (u + W * 0) + (Bj * B) * (Qv * V) = X) (hu : u = q * V + N) : pv + Bj * (N + W * 0) + Bj * ((q + B * Qv) * V) = X := by
  subst hu
  rw [← hR]
  grind
theorem divl_end {R Qv yv xv S : Nat} (hS : 0 < S) (h : R + Qv * (yv * S) = xv * S) (hlt : R < yv * S) : xv = Qv * yv + R / S ∧ R / S < yv := by
  have h1 : (Qv * yv) * S ≤ xv * S := by rw [Nat.mul_assoc]; omega
  have h2 := Nat.le_of_mul_le_mul_right h1 hS
  obtain ⟨r, hr⟩ : ∃ r, xv = Qv * yv + r := ⟨xv - Qv * yv, by omega⟩
  subst hr
  have h3 : R = r * S := by
    rw [Nat.add_mul, Nat.mul_assoc] at h
    omega
  rw [h3, Nat.mul_div_cancel _ hS]
  rw [h3] at hlt
  exact ⟨rfl, Nat.lt_of_mul_lt_mul_right hlt⟩
/-- the divisor moved up has its length still, and its highest limb is great -/
theorem top_fits {y Y : List Nat} {n sh : Nat} (hy : y.length = n + 2) (hl : Lims y) (h1 : 2147483648 ≤ y.getD (n + 1) 0 * 2 ^ sh) (h2 : y.getD (n + 1) 0 * 2 ^ sh < 4294967296) (hs : sh ≤ 31) (hY : val Y = val y * 2 ^ sh) :
    val Y < B32 ^ (n + 2) ∧ 2147483648 * B32 ^ (n + 1) ≤ val Y := by
  have e := val_take_succ y (n + 1)
  rw [List.take_of_length_le (by omega)] at e
  have hlo := val_lt (y.take (n + 1)) (lims_take hl _)
  rw [List.length_take, Nat.min_eq_left (by omega)] at hlo
  have hD : (4294967296 : Nat) = 2 ^ sh * 2 ^ (32 - sh) := by
    rw [← Nat.pow_add, show sh + (32 - sh) = 32 by omega]
  have hB : B32 = 2 ^ sh * 2 ^ (32 - sh) := by rw [B32_eq]; exact hD
  generalize y.getD (n + 1) 0 = t at *
  generalize val (y.take (n + 1)) = lo at *
  have hS : 0 < 2 ^ sh := Nat.two_pow_pos _
  have e2 : B32 ^ (n + 2) = B32 * B32 ^ (n + 1) := by rw [Nat.pow_succ, Nat.mul_comm]
  rw [e2, hY, e]
  generalize B32 ^ (n + 1) = P at *
  have h3 : t + 1 ≤ 2 ^ (32 - sh) := by
    have h2' : t * 2 ^ sh < 2 ^ (32 - sh) * 2 ^ sh := by rw [Nat.mul_comm (2 ^ (32 - sh))]; omega
    exact Nat.lt_of_mul_lt_mul_right h2'
  constructor
  · rw [hB]
    generalize 2 ^ sh = S at *
    generalize 2 ^ (32 - sh) = D at *
    have k1 : (lo + P * t) * S < (P + P * t) * S := Nat.mul_lt_mul_of_pos_right (by omega) hS
    have k2 : P * (t + 1) ≤ P * D := Nat.mul_le_mul_left _ h3
    have k3 : P * (t + 1) * S ≤ P * D * S := Nat.mul_le_mul_right _ k2
    have k4 : P * (t + 1) * S = (P + P * t) * S := by grind
    have k5 : P * D * S = S * D * P := by grind
    omega
  · generalize 2 ^ sh = S at *
    have k1 : 2147483648 * P ≤ t * S * P := Nat.mul_le_mul_right _ h1
    have k2 : (lo + P * t) * S = lo * S + t * S * P := by grind
    omega
theorem take_same {Y : List Nat} {k : Nat} (hk : k ≤ Y.length) (h : val Y < B32 ^ k) : val (Y.take k) = val Y := by
  have h1 := val_split Y k hk
  have h2 : val (Y.drop k) = 0 := by
    rcases Nat.eq_zero_or_pos (val (Y.drop k)) with h0 | h0
    · exact h0
    · have : B32 ^ k * 1 ≤ B32 ^ k * val (Y.drop k) := Nat.mul_le_mul_left _ h0
      omega
  rw [h2, Nat.mul_zero] at h1
  omega
theorem top_ge {V : List Nat} {n : Nat} (hV : V.length = n + 2) (hl : Lims V) (h : 2147483648 * B32 ^ (n + 1) ≤ val V) : 1 ≤ V.getD (n + 1) 0 := by
  have e := val_take_succ V (n + 1)
  rw [List.take_of_length_le (by omega)] at e
  have hlo := val_lt (V.take (n + 1)) (lims_take hl _)
  rw [List.length_take, Nat.min_eq_left (by omega)] at hlo
  rcases Nat.eq_zero_or_pos (V.getD (n + 1) 0) with h0 | h0
  · rw [h0, Nat.mul_zero] at e
    generalize B32 ^ (n + 1) = P at *
    omega
  · exact h0
/-- what is to be divided, moved up: its highest limbs are less than the divisor -/
theorem first_less {R : List Nat} {m n k sh xv : Nat} (hR : R.length = m + 1) (hk : k + (n + 1) = m) (hx : xv < B32 ^ m) (hs : sh ≤ 31) (hv : val R = xv * 2 ^ sh) (V : Nat) (hV : 2147483648 * B32 ^ (n + 1) ≤ V) : val (R.drop k) < V := by
  have h1 := val_split R k (by omega)
  have h2 : 2 ^ sh ≤ 2147483648 := Nat.pow_le_pow_right (n := 2) (by omega) hs
  have h3 : xv * 2 ^ sh < B32 ^ m * 2147483648 := Nat.lt_of_lt_of_le (Nat.mul_lt_mul_of_pos_right hx (Nat.two_pow_pos _)) (Nat.mul_le_mul_left _ h2)
  have e : B32 ^ m = B32 ^ k * B32 ^ (n + 1) := by rw [← Nat.pow_add, hk]
  rw [e] at h3
  have h4 : B32 ^ k * val (R.drop k) < B32 ^ k * (2147483648 * B32 ^ (n + 1)) := by
    have : B32 ^ k * (2147483648 * B32 ^ (n + 1)) = B32 ^ k * B32 ^ (n + 1) * 2147483648 := by grind
    omega
  have := Nat.lt_of_mul_lt_mul_left h4
  omega
theorem SL.of_win {w : World} {g off c : Nat} {P u S : List Nat} (h : Row w g (P ++ u ++ S)) (hP : P.length = off) (hc : u.length ≤ c) (hb : u.length ≤ 35184372088832) (hcm : c ≤ 9223372036854775807) (hl : Lims u) : SL w (some ⟨g, off, none⟩) u.length c u := by
  refine ⟨rfl, hc, hb, hcm, hl, (by simp), g, off, fun _ => ⟨rfl, h.lt⟩, fun j hj => ?_⟩
  rw [h.cell (off + j) (by simp; omega)]
  congr 3
  subst hP
  simp only [List.getD_eq_getElem?_getD]
  rw [List.append_assoc, List.getElem?_append_right (by omega), Nat.add_sub_cancel_left, List.getElem?_append_left hj]
theorem rep_set2 (Q : List Nat) (j d : Nat) : (List.replicate (j + 1) 0 ++ Q).set j d = List.replicate j 0 ++ (d :: Q) := by
  rw [List.replicate_succ', List.append_assoc, List.set_append_right _ _ (by simp)]
  simp
end Go.Proofs.Ytonfnkchpicoiaa
