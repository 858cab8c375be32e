/-
  The arithmetic of division limb by limb.
-/
import Derived.Test.YtonfnkchpicoiaaMath2
namespace Go.Proofs.Ytonfnkchpicoiaa
set_option linter.unusedSimpArgs false
set_option linter.unusedVariables false

theorem or_shift (c p sh : Nat) (h : c < 2 ^ sh) : c ||| p * 2 ^ sh = c + p * 2 ^ sh := by
  have := Nat.shiftLeft_add_eq_or_of_lt h p
  rw [Nat.shiftLeft_eq] at this
  rw [Nat.or_comm, ← this, Nat.add_comm]

/-- one limb of a number moved down -/
theorem back_gen {P B D n t : Nat} (hB : B = P * D) (hP : 0 < P) (hn : n < B) : (n + B * t) / P = ((n + (t % B) * B) / P) % B + B * (t / P) := by
  have hr : (t % B) % P = t % P := Nat.mod_mod_of_dvd t ⟨D, hB⟩
  have hB0 : 0 < B := by omega
  have hrl : t % P < P := Nat.mod_lt _ hP
  have e1 : n + B * t = (n + B * (t % P)) + P * (B * (t / P)) := by
    have := Nat.div_add_mod t P
    generalize t / P = q at *
    generalize t % P = r at *
    subst this
    grind
  have e2 : n + (t % B) * B = (n + B * (t % P)) + P * (B * ((t % B) / P)) := by
    have := Nat.div_add_mod (t % B) P
    rw [hr] at this
    generalize (t % B) / P = q at *
    generalize t % P = r at *
    rw [← this]
    grind
  have hlt : (n + B * (t % P)) / P < B := by
    rw [Nat.div_lt_iff_lt_mul hP]
    have : B * (t % P + 1) ≤ B * P := Nat.mul_le_mul_left _ hrl
    rw [Nat.mul_add] at this
    omega
  rw [e1, e2, Nat.add_mul_div_left _ _ hP, Nat.add_mul_div_left _ _ hP, Nat.add_mul_mod_self_left, Nat.mod_eq_of_lt hlt]

theorem guess_first {U V B Q high v1 v2 u2 lu lv d : Nat} (hU : U = (high * B + u2) * Q + lu) (hlu : lu < Q) (hV : V = (v1 * B + v2) * Q + lv) (hu2 : u2 < B) (hd : high < (d + 1) * v1) : U < (d + 1) * V := by
  have h1 : high + 1 ≤ (d + 1) * v1 := hd
  have h2 : (high + 1) * (B * Q) ≤ (d + 1) * v1 * (B * Q) := Nat.mul_le_mul_right _ h1
  have h3 : (high * B + u2 + 1) * Q ≤ (high * B + B) * Q := Nat.mul_le_mul_right _ (by omega)
  have h4 : (d + 1) * V = (d + 1) * v1 * (B * Q) + (d + 1) * (v2 * Q + lv) := by rw [hV]; grind
  have h5 : (high * B + B) * Q = (high + 1) * (B * Q) := by grind
  have h6 : (high * B + u2 + 1) * Q = (high * B + u2) * Q + Q := by grind
  omega
theorem guess_less {U V B Q high v1 v2 u2 lu lv d left : Nat} (hU : U = (high * B + u2) * Q + lu) (hlu : lu < Q) (hV : V = (v1 * B + v2) * Q + lv) (hl : left + d * v1 = high) (hd : left * B + u2 < d * v2) : U < d * V := by
  subst hl
  have h1 : (left * B + u2 + 1) * Q ≤ d * v2 * Q := Nat.mul_le_mul_right _ hd
  have h2 : ((left + d * v1) * B + u2) * Q + Q = d * v1 * B * Q + (left * B + u2 + 1) * Q := by grind
  have h3 : d * V = d * v1 * B * Q + d * v2 * Q + d * lv := by rw [hV]; grind
  omega
theorem guess_last {U V B Q high v1 v2 u2 lu lv d left : Nat} (hU : U = (high * B + u2) * Q + lu) (hV : V = (v1 * B + v2) * Q + lv) (hlv : lv < Q) (hl : left + (d + 1) * v1 = high) (hd : (d + 1) * v2 ≤ left * B + u2) (hB : d ≤ B) (hv : 1 ≤ v1) : d * V ≤ U := by
  subst hl
  have h1 : d * V ≤ d * ((v1 * B + v2 + 1) * Q) := Nat.mul_le_mul_left _ (by rw [hV]; have : (v1 * B + v2 + 1) * Q = (v1 * B + v2) * Q + Q := (by grind); omega)
  have h2 : d * ((v1 * B + v2 + 1) * Q) = (d * (v1 * B) + d * v2 + d) * Q := by grind
  have h3 : 1 * B ≤ v1 * B := Nat.mul_le_mul_right _ hv
  have h4 : (left + (d + 1) * v1) * B + u2 = (left * B + u2) + d * (v1 * B) + v1 * B := by grind
  have h5 : (d + 1) * v2 = d * v2 + v2 := by grind
  have h6 : (d * (v1 * B) + d * v2 + d) * Q ≤ ((left + (d + 1) * v1) * B + u2) * Q := Nat.mul_le_mul_right _ (by omega)
  omega

theorem top_two (v : List Nat) (n : Nat) (hn : v.length = n + 2) (hl : Lims v) : ∃ lv, lv < B32 ^ n ∧ val v = (v.getD (n + 1) 0 * B32 + v.getD n 0) * B32 ^ n + lv := by
  refine ⟨val (v.take n), ?_, ?_⟩
  · have := val_lt (v.take n) (lims_take hl n)
    rwa [List.length_take, Nat.min_eq_left (by omega)] at this
  · have h1 := val_take_succ v n
    have h2 := val_take_succ v (n + 1)
    rw [List.take_of_length_le (by omega), Nat.pow_succ] at h2
    rw [h2, h1]
    grind
theorem top_three (u : List Nat) (n : Nat) (hn : u.length = n + 3) (hl : Lims u) : ∃ lu, lu < B32 ^ n ∧ val u = ((u.getD (n + 2) 0 * B32 + u.getD (n + 1) 0) * B32 + u.getD n 0) * B32 ^ n + lu := by
  refine ⟨val (u.take n), ?_, ?_⟩
  · have := val_lt (u.take n) (lims_take hl n)
    rwa [List.length_take, Nat.min_eq_left (by omega)] at this
  · have h1 := val_take_succ u n
    have h2 := val_take_succ u (n + 1)
    have h3 := val_take_succ u (n + 2)
    rw [List.take_of_length_le (by omega), Nat.pow_succ, Nat.pow_succ] at h3
    rw [Nat.pow_succ] at h2
    rw [h3, h2, h1]
    grind

/-- a multiple was taken from a window: just right -/
theorem take_right {N U V d W lack : Nat} (h : N + d * V = U + W * lack) (hU : U < (d + 1) * V) (hUW : U < W) (hNW : N < W) (h0 : lack = 0) : U = d * V + N ∧ N < V := by
  subst h0
  rw [Nat.mul_zero, Nat.add_zero] at h
  rw [Nat.add_mul, Nat.one_mul] at hU
  omega
/-- or one time too much, which is made good -/
theorem take_wrong {N M U V d W lack c : Nat} (h : N + (d + 1) * V = U + W * lack) (hd : d * V ≤ U) (hVW : V < W) (hM : M < W) (h0 : lack ≠ 0) (hN : N < W) (ha : M + W * c = N + V) : U = d * V + M ∧ M < V := by
  rw [Nat.add_mul, Nat.one_mul] at h
  -- U - dV < V, so N + V is that and W * lack
  have h1 : W * 1 ≤ W * lack := Nat.mul_le_mul_left _ (by omega)
  have h2 : N + V = (U - d * V) + W * lack := by omega
  have h3 : U - d * V < V := by omega
  have h4 : lack = 1 := by
    rcases Nat.lt_or_ge lack 2 with k | k
    · omega
    · have := Nat.mul_le_mul_left W k
      omega
  subst h4
  have h5 : c = 1 := by
    rcases Nat.lt_trichotomy c 1 with k | k | k
    · have : c = 0 := by omega
      subst this
      rw [Nat.mul_zero] at ha
      omega
    · exact k
    · have := Nat.mul_le_mul_left W (show 2 ≤ c from k)
      omega
  subst h5
  omega
end Go.Proofs.Ytonfnkchpicoiaa
