/-
  behindFraction, behindExponent.
-/
import Derived.Test.YtcmhfeeocehlaaaGreatDoorWords
namespace Go.Proofs.YtcmhfeeocehlaaaGreatDoor
set_option linter.unusedSimpArgs false
set_option linter.unusedVariables false
open Go.RowKit Go.PlainAid
attribute [local go_sem ↓] Go.wp_at_zero Go.wp_at_succ

theorem cast1 (a : Nat) : ((a + 1 : Nat) : Int) = (a : Int) + 1 := by omega
theorem cast11 (a : Nat) : ((a + 2 : Nat) : Int) = (a : Int) + 1 + 1 := by omega
set_option maxHeartbeats 1000000 in
set_option maxRecDepth 100000 in
theorem frac_raw (s : ByteArray) (a : Nat) (w : World) (hs : s.size ≤ 65536) (ha : a ≤ s.size) :
    Calls Tryz.prog 57 #[.string s, .int .i64 (a : Int)] w fun e w' => e = .returned (.int .i64 (frac s a : Int)) ∧ w' = w := by
  have HB1 := hid (fun w => byteAt_raw s a w (by omega))
  have HB2 := hid (fun w => byteAt_raw s (a + 1) w (by omega))
  have HL := hid (fun w => digit_raw (bt s (a + 1)) w (bt_nonneg s _) (bt_le s _))
  rw [cast1] at HB2
  unfold frac
  by_cases h1 : bt s a = 46
  · rw [h1] at HB1
    cases hv : isD (bt s (a + 1)) with
    | true =>
      rw [if_pos ⟨h1, rfl⟩]
      have hlt := lt_of_p isD_0 hv
      have HN := hid (fun w => behind_digits s (a + 1) w (by omega) (by omega))
      rw [cast1] at HN
      rw [hv] at HL
      clear h1 hv
      go_enter Tryz.func57, Tryz.ntmps57
      go_wp2_with (first
        | (go_at_call 25; first | (refine (HB1.out _).mono ?_; rintro e w' ⟨rfl, rfl⟩; clear HB1) | (refine (HB2.out _).mono ?_; rintro e w' ⟨rfl, rfl⟩))
        | (go_at_call 28; refine (HL.out _).mono ?_; rintro e w' ⟨rfl, rfl⟩)
        | (go_at_call 53; refine (HN.out _).mono ?_; rintro e w' ⟨rfl, rfl⟩))
      go_ret
      exact ⟨rfl, rfl⟩
    | false =>
      rw [if_neg (by simp)]
      rw [hv] at HL
      clear h1 hv
      go_enter Tryz.func57, Tryz.ntmps57
      go_wp2_with (first
        | (go_at_call 25; first | (refine (HB1.out _).mono ?_; rintro e w' ⟨rfl, rfl⟩; clear HB1) | (refine (HB2.out _).mono ?_; rintro e w' ⟨rfl, rfl⟩))
        | (go_at_call 28; refine (HL.out _).mono ?_; rintro e w' ⟨rfl, rfl⟩))
      go_ret
      exact ⟨rfl, rfl⟩
  · rw [if_neg (fun h => h1 h.1)]
    clear HB2 HL
    go_enter Tryz.func57, Tryz.ntmps57
    go_wp2_with (go_at_call 25; refine (HB1.out _).mono ?_; rintro e w' ⟨rfl, rfl⟩)
    go_ret
    exact ⟨rfl, rfl⟩

set_option maxHeartbeats 1000000 in
set_option maxRecDepth 100000 in
theorem expo_raw (s : ByteArray) (a : Nat) (w : World) (hs : s.size ≤ 65536) (ha : a ≤ s.size) :
    Calls Tryz.prog 56 #[.string s, .int .i64 (a : Int)] w fun e w' => e = .returned (.int .i64 (expo s a : Int)) ∧ w' = w := by
  have HB1 := hid (fun w => byteAt_raw s a w (by omega))
  have HB2 := hid (fun w => byteAt_raw s (a + 1) w (by omega))
  rw [cast1] at HB2
  unfold expo
  by_cases h1 : bt s a = 101
  · rw [h1] at HB1
    by_cases h2 : bt s (a + 1) = 126
    · have hx : exD s a = a + 2 := by unfold exD; rw [if_pos h2]
      rw [hx]
      rw [h2] at HB2
      have HB3 := hid (fun w => byteAt_raw s (a + 2) w (by omega))
      have HL := hid (fun w => digit_raw (bt s (a + 2)) w (bt_nonneg s _) (bt_le s _))
      rw [cast11] at HB3
      cases hv : isD (bt s (a + 2)) with
      | true =>
        rw [if_pos ⟨h1, rfl⟩]
        have hlt := lt_of_p isD_0 hv
        have HN := hid (fun w => behind_digits s (a + 2) w (by omega) (by omega))
        rw [cast11] at HN
        rw [hv] at HL
        clear h1 h2 hv hx
        go_enter Tryz.func56, Tryz.ntmps56
        go_wp2_with (first
          | (go_at_call 25; first | (refine (HB1.out _).mono ?_; rintro e w' ⟨rfl, rfl⟩; clear HB1) | (refine (HB2.out _).mono ?_; rintro e w' ⟨rfl, rfl⟩; clear HB2) | (refine (HB3.out _).mono ?_; rintro e w' ⟨rfl, rfl⟩))
          | (go_at_call 28; refine (HL.out _).mono ?_; rintro e w' ⟨rfl, rfl⟩)
          | (go_at_call 53; refine (HN.out _).mono ?_; rintro e w' ⟨rfl, rfl⟩))
        go_ret
        exact ⟨rfl, rfl⟩
      | false =>
        rw [if_neg (by simp)]
        rw [hv] at HL
        clear h1 h2 hv hx
        go_enter Tryz.func56, Tryz.ntmps56
        go_wp2_with (first
          | (go_at_call 25; first | (refine (HB1.out _).mono ?_; rintro e w' ⟨rfl, rfl⟩; clear HB1) | (refine (HB2.out _).mono ?_; rintro e w' ⟨rfl, rfl⟩; clear HB2) | (refine (HB3.out _).mono ?_; rintro e w' ⟨rfl, rfl⟩))
          | (go_at_call 28; refine (HL.out _).mono ?_; rintro e w' ⟨rfl, rfl⟩))
        go_ret
        exact ⟨rfl, rfl⟩
    · have hx : exD s a = a + 1 := by unfold exD; rw [if_neg h2]
      rw [hx]
      have HL := hid (fun w => digit_raw (bt s (a + 1)) w (bt_nonneg s _) (bt_le s _))
      cases hv : isD (bt s (a + 1)) with
      | true =>
        rw [if_pos ⟨h1, rfl⟩]
        have hlt := lt_of_p isD_0 hv
        have HN := hid (fun w => behind_digits s (a + 1) w (by omega) (by omega))
        rw [cast1] at HN
        rw [hv] at HL
        clear h1 hv hx
        go_enter Tryz.func56, Tryz.ntmps56
        go_wp2_with (first
          | (go_at_call 25; first | (refine (HB1.out _).mono ?_; rintro e w' ⟨rfl, rfl⟩; clear HB1) | (refine (HB2.out _).mono ?_; rintro e w' ⟨rfl, rfl⟩))
          | (go_at_call 28; refine (HL.out _).mono ?_; rintro e w' ⟨rfl, rfl⟩)
          | (go_at_call 53; refine (HN.out _).mono ?_; rintro e w' ⟨rfl, rfl⟩))
        go_ret
        exact ⟨rfl, rfl⟩
      | false =>
        rw [if_neg (by simp)]
        rw [hv] at HL
        clear h1 hv hx
        go_enter Tryz.func56, Tryz.ntmps56
        go_wp2_with (first
          | (go_at_call 25; first | (refine (HB1.out _).mono ?_; rintro e w' ⟨rfl, rfl⟩; clear HB1) | (refine (HB2.out _).mono ?_; rintro e w' ⟨rfl, rfl⟩))
          | (go_at_call 28; refine (HL.out _).mono ?_; rintro e w' ⟨rfl, rfl⟩))
        go_ret
        exact ⟨rfl, rfl⟩
  · rw [if_neg (fun h => h1 h.1)]
    have hne : (bt s a != 101) = true := by simpa using h1
    clear HB2
    go_enter Tryz.func56, Tryz.ntmps56
    go_wp2_with (go_at_call 25; refine (HB1.out _).mono ?_; rintro e w' ⟨rfl, rfl⟩)
    go_ret
    exact ⟨rfl, rfl⟩
end Go.Proofs.YtcmhfeeocehlaaaGreatDoor
