/-
  math/bits: Len32, LeadingZeros32.
-/
import Derived.Test.YtonfnkchpicoiaaDivide
import Derived.Laws.MathBits
namespace Go.Proofs.Ytonfnkchpicoiaa
set_option linter.unusedSimpArgs false
set_option linter.unusedVariables false
open Go.RowKit
attribute [local go_sem ↓] Go.wp_at_zero Go.wp_at_succ

theorem bl16 (y : Nat) (h : y / 65536 ≠ 0) : bitLen y = 16 + bitLen (y / 65536) := bitLen_shift y 16 h
theorem bl8 (y : Nat) (h : y / 256 ≠ 0) : bitLen y = 8 + bitLen (y / 256) := bitLen_shift y 8 h
theorem bl_le (y : Nat) (h : y < 4294967296) : bitLen y ≤ 32 := by
  unfold bitLen
  split
  · omega
  · rename_i h0
    have := (Nat.log2_lt h0).2 (show y < 2 ^ 32 from h)
    omega
theorem wrap_small (b : Nat) (h : b ≤ 1000) : wrap64 (b : Int) = b := by unfold wrap64; omega
theorem wrap_two (a b : Nat) (hb : b ≤ 8) (ha : a ≤ 24) : wrap64 ((a : Int) + wrap64 (b : Int)) = ((a + b : Nat) : Int) := by
  rw [wrap_small b (by omega)]
  unfold wrap64; omega

set_option maxHeartbeats 1600000 in
set_option maxRecDepth 1000000 in
theorem len32_raw (y : Nat) (w : World) (hy : y < 4294967296) :
    Calls Try.prog 84 #[.int .u32 (y : Int)] w fun e w' => e = .returned (.int .i64 (bitLen y : Int)) ∧ w' = w := by
  by_cases h1 : 65536 ≤ y
  · have h1' : (65536 : Int) ≤ (y : Int) := by omega
    have E1 := hid (bl16 y (by omega))
    by_cases h2 : 256 ≤ y / 65536
    · have E2 := hid (bl8 (y / 65536) (by omega))
      have E3 := hid (bitLen_le8 (y / 65536 / 256) (by omega))
      go_enter Try.func84, Try.ntmps84
      go_wp2
      go_ret
      refine ⟨ret_int ?_, rfl⟩
      rw [len8tab_get, E1.out, E2.out]
      exact (wrap_two 24 _ E3.out (by omega)).trans (by omega)
    · have E3 := hid (bitLen_le8 (y / 65536) (by omega))
      have h2' : ¬ (256 : Int) ≤ (y : Int) / 65536 := by omega
      go_enter Try.func84, Try.ntmps84
      go_wp2
      go_ret
      refine ⟨ret_int ?_, rfl⟩
      rw [len8tab_get, E1.out]
      exact (wrap_two 16 _ E3.out (by omega)).trans (by omega)
  · have h1' : ¬ (65536 : Int) ≤ (y : Int) := by omega
    by_cases h2 : 256 ≤ y
    · have h2' : (256 : Int) ≤ (y : Int) := by omega
      have E2 := hid (bl8 y (by omega))
      have E3 := hid (bitLen_le8 (y / 256) (by omega))
      go_enter Try.func84, Try.ntmps84
      go_wp2
      go_ret
      refine ⟨ret_int ?_, rfl⟩
      rw [len8tab_get, E2.out]
      exact (wrap_two 8 _ E3.out (by omega)).trans (by omega)
    · have h2' : ¬ (256 : Int) ≤ (y : Int) := by omega
      have E3 := hid (bitLen_le8 y (by omega))
      go_enter Try.func84, Try.ntmps84
      go_wp2
      go_ret
      refine ⟨ret_int ?_, rfl⟩
      rw [len8tab_get]
      first
        | exact (wrap_two 0 _ E3.out (by omega)).trans (by omega)
        | (rw [wrap_small _ (by have := E3.out; omega)]; try rw [wrap_small _ (by have := E3.out; omega)])

theorem lead_spec (y : Nat) (h0 : 0 < y) (h : y < 4294967296) : bitLen y ≤ 32 ∧ 1 ≤ bitLen y ∧ 2147483648 ≤ y * 2 ^ (32 - bitLen y) ∧ y * 2 ^ (32 - bitLen y) < 4294967296 := by
  have h1 := bl_le y h
  obtain ⟨h2, h3⟩ := bitLen_spec y
  have h3 := h3 (by omega)
  have h4 : 1 ≤ bitLen y := by unfold bitLen; rw [if_neg (by omega)]; omega
  refine ⟨h1, h4, ?_, ?_⟩
  · have e : (2147483648 : Nat) = 2 ^ (bitLen y - 1) * 2 ^ (32 - bitLen y) := by
      rw [← Nat.pow_add, show bitLen y - 1 + (32 - bitLen y) = 31 by omega]
    rw [e]
    exact Nat.mul_le_mul_right _ h3
  · have e : (4294967296 : Nat) = 2 ^ bitLen y * 2 ^ (32 - bitLen y) := by
      rw [← Nat.pow_add, show bitLen y + (32 - bitLen y) = 32 by omega]
    rw [e]
    exact Nat.mul_lt_mul_of_pos_right h2 (Nat.two_pow_pos _)

set_option maxHeartbeats 800000 in
theorem lead_raw (y : Nat) (w : World) (hy : y < 4294967296) (h0 : 0 < y) :
    Calls Try.prog 79 #[.int .u32 (y : Int)] w fun e w' => w' = w ∧ ∃ sh : Nat, e = .returned (.int .i64 (sh : Int)) ∧ sh ≤ 31 ∧ 2147483648 ≤ y * 2 ^ sh ∧ y * 2 ^ sh < 4294967296 := by
  obtain ⟨h1, h2, h3, h4⟩ := lead_spec y h0 hy
  have HL := hid (fun w => len32_raw y w hy)
  generalize bitLen y = b at *
  have H34 := hid (And.intro h3 h4)
  clear h3 h4
  go_enter Try.func79, Try.ntmps79
  go_wp2_with (go_at_call 84; refine (HL.out _).mono ?_; rintro e w' ⟨rfl, rfl⟩)
  go_ret
  exact ⟨rfl, 32 - b, ret_int (by omega), by omega, H34.out.1, H34.out.2⟩
end Go.Proofs.Ytonfnkchpicoiaa
