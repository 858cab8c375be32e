/-
  How long quotient, rest and what is made of them are.
-/
import Derived.Test.YtonfnkchpicoiaaDivPair
namespace Go.Proofs.Ytonfnkchpicoiaa
set_option linter.unusedSimpArgs false
set_option linter.unusedVariables false
open Go.RowKit

theorem nrm_len' {l : List Nat} {j : Nat} (h : Nrm l) (hv : val l < B32 ^ j) : l.length ≤ j := by
  by_cases h0 : l = []
  · rw [h0]; simp
  · have h1 := nrm_pos h h0
    by_cases h2 : j < l.length
    · have := pow_mono (show j ≤ l.length - 1 by omega)
      omega
    · omega
theorem abs_iv (s : Bool) (l : List Nat) : (iv s l).natAbs = val l := by
  unfold iv; split <;> omega
theorem len_of {s : Bool} {l : List Nat} {z : Int} {k : Nat} (hn : Nrm l) (h : iv s l = z) (hz : z.natAbs < B32 ^ k) : l.length ≤ k := by
  refine nrm_len' hn ?_
  rw [← abs_iv s l, h]
  exact hz
theorem dm_q {a b q r : Int} (h : DM a b q r) : q.natAbs ≤ a.natAbs := by
  obtain ⟨h1, h2⟩ := h
  rcases h2 with ⟨k1, k2⟩ | ⟨k1, k2⟩
  · by_cases hq : 0 ≤ q
    · have := Int.mul_le_mul_of_nonneg_left (show (1 : Int) ≤ b by omega) hq
      rw [Int.mul_one] at this
      omega
    · have := Int.mul_le_mul_of_nonneg_left (show (1 : Int) ≤ b by omega) (show 0 ≤ -(q + 1) by omega)
      rw [Int.mul_one, Int.neg_mul, Int.add_mul, Int.one_mul] at this
      omega
  · by_cases hq : 0 ≤ q
    · have := Int.mul_le_mul_of_nonneg_left (show (1 : Int) ≤ -b by omega) hq
      rw [Int.mul_one, Int.mul_neg] at this
      omega
    · have := Int.mul_le_mul_of_nonneg_left (show (1 : Int) ≤ -b by omega) (show 0 ≤ -(q + 1) by omega)
      rw [Int.mul_one, Int.neg_mul, Int.mul_neg, Int.add_mul, Int.one_mul] at this
      omega
theorem dm_r {a b q r : Int} (h : DM a b q r) : r.natAbs < b.natAbs := by
  have := h.2
  omega
theorem dm_p {a b q r : Int} (h : DM a b q r) : (q * b).natAbs ≤ a.natAbs + b.natAbs := by
  have h1 := h.1
  have h2 := dm_r h
  omega
theorem two_pow {a b M : Nat} (ha : a < B32 ^ M) (hb : b < B32 ^ M) : a + b < B32 ^ (M + 1) := by
  rw [Nat.pow_succ, B32_eq] at *
  generalize 4294967296 ^ M = P at *
  omega
theorem prod_len {x y : List Nat} {M : Nat} (h : val x * val y < B32 ^ M) (hx : (tr x).length ≤ M) (hy : (tr y).length ≤ M) : (tr x).length + (tr y).length ≤ M + 1 := by
  by_cases h1 : tr x = []
  · rw [h1]; simp; omega
  · by_cases h2 : tr y = []
    · rw [h2]; simp; omega
    · have k1 := nrm_pos (nrm_tr x) h1
      have k2 := nrm_pos (nrm_tr y) h2
      have k3 := Nat.mul_le_mul k1 k2
      rw [val_tr, val_tr, ← Nat.pow_add] at k3
      have l1 := List.length_pos_iff.2 h1
      have l2 := List.length_pos_iff.2 h2
      by_cases h3 : (tr x).length + (tr y).length ≤ M + 1
      · exact h3
      · have := pow_mono (show M ≤ (tr x).length - 1 + ((tr y).length - 1) by omega)
        omega

/-- all the lengths that the law's walk meets -/
theorem quot_lens {s1 s2 sq sr : Bool} {x1 x2 lq lr : List Nat} {n1 n2 M : Nat} (e1 : x1.length = n1) (e2 : x2.length = n2) (l1 : Lims x1) (l2 : Lims x2) (h1 : n1 ≤ M) (h2 : n2 ≤ M) (h : DM (iv s1 x1) (iv s2 x2) (iv sq lq) (iv sr lr)) (nq : Nrm lq) (nr : Nrm lr) :
    lq.length ≤ M ∧ lr.length ≤ M ∧ (tr lq).length + (tr x2).length ≤ M + 2 ∧
    (∀ s l, Nrm l → iv s l = iv sq lq * iv s2 x2 → l.length ≤ M + 1) ∧ (∀ s l, Nrm l → iv s l = iv s1 x1 + iv s2 x2 → l.length ≤ M + 1) ∧ (∀ s l, Nrm l → iv s l = iv sq lq + 1 → l.length ≤ M + 1) := by
  have v1 : val x1 < B32 ^ M := Nat.lt_of_lt_of_le (val_lt x1 l1) (pow_mono (by omega))
  have v2 : val x2 < B32 ^ M := Nat.lt_of_lt_of_le (val_lt x2 l2) (pow_mono (by omega))
  have hq := dm_q h
  have hr := dm_r h
  have hp := dm_p h
  rw [abs_iv, abs_iv] at hq hr
  rw [abs_iv, abs_iv] at hp
  have t2 := two_pow v1 v2
  have kq := nrm_len' nq (Nat.lt_of_le_of_lt hq v1)
  have kr := nrm_len' nr (Nat.lt_trans hr v2)
  have hpv : val lq * val x2 < B32 ^ (M + 1) := by
    have e : (iv sq lq * iv s2 x2).natAbs = val lq * val x2 := by rw [Int.natAbs_mul, abs_iv, abs_iv]
    rw [e] at hp
    omega
  refine ⟨kq, kr, prod_len hpv ?_ ?_, ?_, ?_, ?_⟩
  · have := tr_le lq; omega
  · have := tr_le x2; omega
  · intro s l hn e
    exact len_of hn e (by rw [Int.natAbs_mul, abs_iv, abs_iv]; exact hpv)
  · intro s l hn e
    refine len_of hn e ?_
    have a1 := abs_iv s1 x1
    have a2 := abs_iv s2 x2
    omega
  · intro s l hn e
    refine len_of hn e ?_
    have a1 := abs_iv sq lq
    have := Nat.pow_pos (n := M) B32_pos
    have e3 : B32 ^ (M + 1) = B32 ^ M * 4294967296 := by rw [Nat.pow_succ, B32_eq]
    omega
end Go.Proofs.Ytonfnkchpicoiaa
