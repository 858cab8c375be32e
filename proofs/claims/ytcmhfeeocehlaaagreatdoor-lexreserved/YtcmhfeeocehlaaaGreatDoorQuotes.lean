/-
  Texts and characters: what stands between quotes.
-/
import Derived.Test.YtcmhfeeocehlaaaGreatDoorNames
namespace Go.Proofs.YtcmhfeeocehlaaaGreatDoor
set_option linter.unusedSimpArgs false
set_option linter.unusedVariables false
open Go.RowKit Go.PlainAid
attribute [local go_sem ↓] Go.wp_at_zero Go.wp_at_succ

theorem isD_iff (c : Int) : isD c = true ↔ 48 ≤ c ∧ c ≤ 57 := by simp [isD]
/-- the number of j digits behind a -/
def digN (s : ByteArray) (a : Nat) : Nat → Int
  | 0 => 0
  | j + 1 => digN s a j * 10 + (bt s (a + 1 + j) - 48)
theorem escB_digits {s : ByteArray} {a : Nat} (h1 : ¬ bt s (a + 1) = 110) (h2 : ¬ bt s (a + 1) = 116) (h3 : ¬ (bt s (a + 1) = 92 ∨ bt s (a + 1) = 34)) (hd : ∀ j, j < 3 → isD (bt s (a + 1 + j)) = true) :
    escB s a = if 255 < digN s a 3 then (0, 0) else (digN s a 3, 4) := by
  have d0 := hd 0 (by omega)
  have d1 := hd 1 (by omega)
  have d2 := hd 2 (by omega)
  unfold escB
  rw [if_neg h1, if_neg h2, if_neg h3, if_pos ⟨d0, d1, d2⟩]
  simp only [digN, Nat.add_zero, Int.zero_mul, Int.zero_add]
theorem escB_none {s : ByteArray} {a j : Nat} (h1 : ¬ bt s (a + 1) = 110) (h2 : ¬ bt s (a + 1) = 116) (h3 : ¬ (bt s (a + 1) = 92 ∨ bt s (a + 1) = 34)) (hj : j < 3) (hd : isD (bt s (a + 1 + j)) = false) : escB s a = (0, 0) := by
  unfold escB
  rw [if_neg h1, if_neg h2, if_neg h3, if_neg]
  rintro ⟨d0, d1, d2⟩
  rcases (show j = 0 ∨ j = 1 ∨ j = 2 by omega) with rfl | rfl | rfl
  · rw [show a + 1 + 0 = a + 1 from rfl, d0] at hd; cases hd
  · rw [show a + 1 + 1 = a + 2 from rfl, d1] at hd; cases hd
  · rw [show a + 1 + 2 = a + 3 from rfl, d2] at hd; cases hd
/-- what escapeAt answers -/
def escV (p : Int × Nat) : Value := .tuple #[.int .u8 p.1, .int .i64 (p.2 : Int)]

set_option maxHeartbeats 1000000 in
set_option maxRecDepth 100000 in
theorem escape_raw (s : ByteArray) (a : Nat) (w : World) (hs : s.size ≤ 65536) (ha : a ≤ s.size) :
    Calls Tryz.prog 74 #[.string s, .int .i64 (a : Int)] w fun e w' => e = .returned (escV (escB s a)) ∧ w' = w := by
  have HB := hid (fun w => byteAt_raw s (a + 1) w (by omega))
  have hcast : ((a + 1 : Nat) : Int) = (a : Int) + 1 := by omega
  rw [hcast] at HB
  by_cases h1 : bt s (a + 1) = 110
  · have he : escB s a = (10, 2) := by unfold escB; rw [if_pos h1]
    rw [he]
    rw [h1] at HB
    clear he h1
    go_enter Tryz.func74, Tryz.ntmps74
    go_wp2_with (go_at_call 25; refine (HB.out _).mono ?_; rintro e w' ⟨rfl, rfl⟩)
    go_ret2
    exact ⟨rfl, rfl⟩
  by_cases h2 : bt s (a + 1) = 116
  · have he : escB s a = (9, 2) := by unfold escB; rw [if_neg h1, if_pos h2]
    rw [he]
    rw [h2] at HB
    clear he h1 h2
    go_enter Tryz.func74, Tryz.ntmps74
    go_wp2_with (go_at_call 25; refine (HB.out _).mono ?_; rintro e w' ⟨rfl, rfl⟩)
    go_ret2
    exact ⟨rfl, rfl⟩
  by_cases h3 : bt s (a + 1) = 92 ∨ bt s (a + 1) = 34
  · have he : escB s a = (bt s (a + 1), 2) := by unfold escB; rw [if_neg h1, if_neg h2, if_pos h3]
    rw [he]
    rcases h3 with h3 | h3
    · rw [h3] at HB ⊢
      clear he h1 h2 h3
      go_enter Tryz.func74, Tryz.ntmps74
      go_wp2_with (go_at_call 25; refine (HB.out _).mono ?_; rintro e w' ⟨rfl, rfl⟩)
      go_ret2
      exact ⟨rfl, rfl⟩
    · rw [h3] at HB ⊢
      clear he h1 h2 h3
      go_enter Tryz.func74, Tryz.ntmps74
      go_wp2_with (go_at_call 25; refine (HB.out _).mono ?_; rintro e w' ⟨rfl, rfl⟩)
      go_ret2
      exact ⟨rfl, rfl⟩
  · have hY := fun hd => escB_digits (s := s) (a := a) h1 h2 h3 hd
    have hN := fun j hj hd => escB_none (s := s) (a := a) (j := j) h1 h2 h3 hj hd
    obtain ⟨E, hE⟩ : ∃ E, escB s a = E := ⟨_, rfl⟩
    rw [hE] at hY hN ⊢
    have HY := hid hY
    have HN := hid hN
    have e1 : (bt s (a + 1) == 110) = false := by simpa using h1
    have e2 : (bt s (a + 1) == 116) = false := by simpa using h2
    have e3 : (bt s (a + 1) == 92) = false := by simpa using fun e => h3 (.inl e)
    have e4 : (bt s (a + 1) == 34) = false := by simpa using fun e => h3 (.inr e)
    clear hY hN hE h3 h1 h2
    go_enter Tryz.func74, Tryz.ntmps74
    go_wp2_with (go_at_call 25; refine (HB.out _).mono ?_; rintro e w' ⟨rfl, rfl⟩)
    go_loop [7, 8] (fun n i => ∃ j : Nat, j ≤ 3 ∧ n = .int .i64 (digN s a j) ∧ i = .int .i64 ((a + 1 + j : Nat) : Int) ∧ 0 ≤ digN s a j ∧ digN s a j ≤ 1000 ∧ (j ≤ 2 → digN s a j ≤ 99) ∧ Hid (∀ i, i < j → isD (bt s (a + 1 + i)) = true)) (fun _ i => a + 4 - (intOf i).toNat)
    case atStart => exact ⟨0, by omega, rfl, by simp, by simp [digN], by simp [digN], by simp [digN], hid (fun i h => by omega)⟩
    case round =>
      obtain ⟨j, hj, rfl, rfl, hn0, hn1, hn2, HD⟩ := hrel
      clear HB e1 e2 e3 e4
      by_cases h3 : j = 3
      · subst h3
        have hE := HY.out HD.out
        obtain ⟨N, hN⟩ : ∃ N, digN s a 3 = N := ⟨_, rfl⟩
        rw [hN] at hE hn0 hn1 ⊢
        by_cases hb : 255 < N
        · rw [if_pos hb] at hE
          subst hE
          clear HY HN HD hN hn2
          go_wp2_with fail
          go_ret2
          exact ⟨rfl, rfl⟩
        · rw [if_neg hb] at hE
          subst hE
          clear HY HN HD hN hn2
          go_wp2_with fail
          go_ret2
          exact ⟨rfl, rfl⟩
      · have hj3 : j < 3 := by omega
        have HB := hid (fun w => byteAt_raw s (a + 1 + j) w (by omega))
        have HL := hid (fun w => digit_raw (bt s (a + 1 + j)) w (bt_nonneg s _) (bt_le s _))
        cases hd : isD (bt s (a + 1 + j)) with
        | false =>
          have hE := HN.out j hj3 hd
          subst hE
          rw [hd] at HL
          clear HY HN HD hd
          go_wp2_with (first
            | (go_at_call 25; refine (HB.out _).mono ?_; rintro e w' ⟨rfl, rfl⟩)
            | (go_at_call 28; refine (HL.out _).mono ?_; rintro e w' ⟨rfl, rfl⟩))
          go_ret2
          exact ⟨rfl, rfl⟩
        | true =>
          have hdi := (isD_iff _).1 hd
          rw [hd] at HL
          have hnx : digN s a (j + 1) = digN s a j * 10 + (bt s (a + 1 + j) - 48) := rfl
          have HD' : Hid (∀ i, i < j + 1 → isD (bt s (a + 1 + i)) = true) := hid (fun i hi => by
            rcases (show i < j ∨ i = j by omega) with h | rfl
            · exact HD.out i h
            · exact hd)
          have hn99 := hn2 (by omega)
          have hj1 : j + 1 ≤ 2 → digN s a j ≤ 9 := by
            intro hj
            rcases (show j = 0 ∨ j = 1 by omega) with rfl | rfl
            · simp [digN]
            · have := (isD_iff _).1 (HD.out 0 (by omega))
              simp only [digN, Nat.add_zero, Int.zero_mul, Int.zero_add] at this ⊢
              omega
          obtain ⟨N, hN⟩ : ∃ N, digN s a j = N := ⟨_, rfl⟩
          obtain ⟨c, hc⟩ : ∃ c, bt s (a + 1 + j) = c := ⟨_, rfl⟩
          obtain ⟨M, hM⟩ : ∃ M, digN s a (j + 1) = M := ⟨_, rfl⟩
          rw [hN, hc, hM] at hnx
          rw [hN] at hn0 hn1 hn99 hj1 ⊢
          rw [hc] at HB HL hdi
          have HM := hid hM
          clear HY HN HD hd hN hc hM hn2
          go_wp2_with (first
            | (go_at_call 25; refine (HB.out _).mono ?_; rintro e w' ⟨rfl, rfl⟩)
            | (go_at_call 28; refine (HL.out _).mono ?_; rintro e w' ⟨rfl, rfl⟩))
          go_round
          · refine ⟨j + 1, by omega, ?_, ?_, ?_, ?_, ?_, HD'⟩
            · rw [HM.out, hnx]
            · simp; omega
            · rw [HM.out]; omega
            · rw [HM.out]; omega
            · rw [HM.out]; omega
          · simp [intOf]; omega
end Go.Proofs.YtcmhfeeocehlaaaGreatDoor
