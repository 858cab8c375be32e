/-
  The small functions over bytes; rows of bytes of one kind.
-/
import Derived.Test.YtcmhfeeocehlaaaGreatDoorRB
import Derived.Test.YtcmhfeeocehlaaaGreatDoorSpec
import Derived.Lib.Walk
namespace Go.Proofs.YtcmhfeeocehlaaaGreatDoor
set_option linter.unusedSimpArgs false
set_option linter.unusedVariables false
open Go.RowKit Go.PlainAid
attribute [local go_sem ↓] Go.wp_at_zero Go.wp_at_succ

/-- answers a byte's kind, the world as it was -/
def Says (f : Nat) (p : Int → Bool) : Prop := ∀ (c : Int) (w : World), 0 ≤ c → c ≤ 255 → Calls Tryz.prog f #[.int .u8 c] w fun e w' => e = .returned (.bool (p c)) ∧ w' = w

set_option maxHeartbeats 1000000 in
theorem blank_raw : Says 22 isB := by
  intro c w h0 h1
  go_enter Tryz.func22, Tryz.ntmps22
  go_wp2
  all_goals (go_ret; exact ⟨ret_bool (by simp [isB, *]), rfl⟩)
set_option maxHeartbeats 1000000 in
theorem letter_raw : Says 26 isL := by
  intro c w h0 h1
  go_enter Tryz.func26, Tryz.ntmps26
  go_wp2
  all_goals (go_ret; exact ⟨ret_bool (by rw [Bool.eq_iff_iff]; simp [isL]; omega), rfl⟩)
set_option maxHeartbeats 1000000 in
theorem digit_raw : Says 28 isD := by
  intro c w h0 h1
  go_enter Tryz.func28, Tryz.ntmps28
  go_wp2
  all_goals (go_ret; exact ⟨ret_bool (by rw [Bool.eq_iff_iff]; simp [isD]; omega), rfl⟩)

set_option maxHeartbeats 1000000 in
theorem namePart_raw : Says 54 isN := by
  intro c w h0 h1
  go_enter Tryz.func54, Tryz.ntmps54
  go_wp2_with (first
    | (go_at_call 26; refine (letter_raw c _ h0 h1).mono ?_; rintro e w' ⟨rfl, rfl⟩)
    | (go_at_call 28; refine (digit_raw c _ h0 h1).mono ?_; rintro e w' ⟨rfl, rfl⟩))
  all_goals (go_ret; exact ⟨ret_bool (by simp [isN, *]), rfl⟩)

set_option maxHeartbeats 1000000 in
set_option maxRecDepth 100000 in
theorem sIndexByte (s : ByteArray) (c : Int) (w : World) :
    Calls Tryz.prog 61 #[.string s, .int .u8 c] w fun e w' => e = .returned (.int .i64 (Lib.indexByte s.data.toList c.toNat.toUInt8)) ∧ w' = w := by
  go_enter Tryz.func61, Tryz.ntmps61
  go_wp2
  rw [run_callFunc_extern Tryz.func85 (by kernel_rfl) (by kernel_rfl) (by kernel_rfl) (e := Extern.BytealgIndexByte.indexByte) (by kernel_rfl), Lib.run_indexByteString]
  simp only [Result.andThen]
  rw [Oper.upon_value]
  go_wp2
  go_ret
  exact ⟨rfl, rfl⟩
set_option maxHeartbeats 1000000 in
theorem symbol_raw : Says 35 isS := by
  intro c w h0 h1
  go_enter Tryz.func35, Tryz.ntmps35
  go_wp2_with (go_at_call 61; refine (sIndexByte _ _ _).mono ?_; rintro e w' ⟨rfl, rfl⟩)
  go_ret
  exact ⟨rfl, rfl⟩
set_option maxHeartbeats 1000000 in
theorem lone_raw : Says 33 isO := by
  intro c w h0 h1
  go_enter Tryz.func33, Tryz.ntmps33
  go_wp2_with (go_at_call 61; refine (sIndexByte _ _ _).mono ?_; rintro e w' ⟨rfl, rfl⟩)
  go_ret
  exact ⟨rfl, rfl⟩
set_option maxHeartbeats 1000000 in
theorem byteAt_raw (s : ByteArray) (a : Nat) (w : World) (hs : s.size ≤ 9223372036854775807) : Calls Tryz.prog 25 #[.string s, .int .i64 (a : Int)] w fun e w' => e = .returned (.int .u8 (bt s a)) ∧ w' = w := by
  have hb := get_bt s
  go_enter Tryz.func25, Tryz.ntmps25
  go_wp2
  · go_ret
    exact ⟨ret_int (bt_end s (by omega)).symm, rfl⟩
  · go_ret
    exact ⟨rfl, rfl⟩

set_option maxHeartbeats 1000000 in
set_option maxRecDepth 100000 in
theorem behind_digits (s : ByteArray) (a : Nat) (w : World) (hs : s.size ≤ 9223372036854775806) (ha : a ≤ s.size) :
    Calls Tryz.prog 53 #[.string s, .int .i64 (a : Int), .func (.func 28) #[] #[]] w fun e w' => e = .returned (.int .i64 (run isD s a : Int)) ∧ w' = w := by
  have hb := get_bt s
  go_enter Tryz.func53, Tryz.ntmps53
  go_wp2_with fail
  go_loop [1] (fun i => ∃ k : Nat, k ≤ s.size ∧ i = .int .i64 (k : Int) ∧ Hid (run isD s k = run isD s a)) (fun i => s.size - (intOf i).toNat)
  case atStart => exact ⟨a, ha, rfl, hid rfl⟩
  case round =>
    obtain ⟨k, hk, rfl, HP⟩ := hrel
    by_cases hlt : k < s.size
    · by_cases hp : isD (bt s k) = true
      · have HY := hid (run_yes hlt hp)
        go_wp2_with (go_at_call 28; refine (digit_raw _ _ (bt_nonneg s k) (bt_le s k)).mono ?_; rintro e w' ⟨rfl, rfl⟩)
        go_round
        · exact ⟨k + 1, by omega, rfl, hid (HY.out.symm.trans HP.out)⟩
        · simp [intOf]; omega
      · have HY := hid (run_no (p := isD) (s := s) (a := k) (by simpa using hp))
        go_wp2_with (go_at_call 28; refine (digit_raw _ _ (bt_nonneg s k) (bt_le s k)).mono ?_; rintro e w' ⟨rfl, rfl⟩)
        go_ret
        exact ⟨ret_int (by rw [← HP.out, HY.out]), rfl⟩
    · have HY := hid (run_end (p := isD) (s := s) (a := k) (by omega))
      go_wp2_with fail
      go_ret
      exact ⟨ret_int (by rw [← HP.out, HY.out]), rfl⟩
set_option maxHeartbeats 1000000 in
set_option maxRecDepth 100000 in
theorem behind_names (s : ByteArray) (a : Nat) (w : World) (hs : s.size ≤ 9223372036854775806) (ha : a ≤ s.size) :
    Calls Tryz.prog 53 #[.string s, .int .i64 (a : Int), .func (.func 54) #[] #[]] w fun e w' => e = .returned (.int .i64 (run isN s a : Int)) ∧ w' = w := by
  have hb := get_bt s
  go_enter Tryz.func53, Tryz.ntmps53
  go_wp2_with fail
  go_loop [1] (fun i => ∃ k : Nat, k ≤ s.size ∧ i = .int .i64 (k : Int) ∧ Hid (run isN s k = run isN s a)) (fun i => s.size - (intOf i).toNat)
  case atStart => exact ⟨a, ha, rfl, hid rfl⟩
  case round =>
    obtain ⟨k, hk, rfl, HP⟩ := hrel
    by_cases hlt : k < s.size
    · by_cases hp : isN (bt s k) = true
      · have HY := hid (run_yes hlt hp)
        go_wp2_with (go_at_call 54; refine (namePart_raw _ _ (bt_nonneg s k) (bt_le s k)).mono ?_; rintro e w' ⟨rfl, rfl⟩)
        go_round
        · exact ⟨k + 1, by omega, rfl, hid (HY.out.symm.trans HP.out)⟩
        · simp [intOf]; omega
      · have HY := hid (run_no (p := isN) (s := s) (a := k) (by simpa using hp))
        go_wp2_with (go_at_call 54; refine (namePart_raw _ _ (bt_nonneg s k) (bt_le s k)).mono ?_; rintro e w' ⟨rfl, rfl⟩)
        go_ret
        exact ⟨ret_int (by rw [← HP.out, HY.out]), rfl⟩
    · have HY := hid (run_end (p := isN) (s := s) (a := k) (by omega))
      go_wp2_with fail
      go_ret
      exact ⟨ret_int (by rw [← HP.out, HY.out]), rfl⟩
set_option maxHeartbeats 1000000 in
set_option maxRecDepth 100000 in
theorem behind_symbols (s : ByteArray) (a : Nat) (w : World) (hs : s.size ≤ 9223372036854775806) (ha : a ≤ s.size) :
    Calls Tryz.prog 53 #[.string s, .int .i64 (a : Int), .func (.func 35) #[] #[]] w fun e w' => e = .returned (.int .i64 (run isS s a : Int)) ∧ w' = w := by
  have hb := get_bt s
  go_enter Tryz.func53, Tryz.ntmps53
  go_wp2_with fail
  go_loop [1] (fun i => ∃ k : Nat, k ≤ s.size ∧ i = .int .i64 (k : Int) ∧ Hid (run isS s k = run isS s a)) (fun i => s.size - (intOf i).toNat)
  case atStart => exact ⟨a, ha, rfl, hid rfl⟩
  case round =>
    obtain ⟨k, hk, rfl, HP⟩ := hrel
    by_cases hlt : k < s.size
    · by_cases hp : isS (bt s k) = true
      · have HY := hid (run_yes hlt hp)
        go_wp2_with (go_at_call 35; refine (symbol_raw _ _ (bt_nonneg s k) (bt_le s k)).mono ?_; rintro e w' ⟨rfl, rfl⟩)
        go_round
        · exact ⟨k + 1, by omega, rfl, hid (HY.out.symm.trans HP.out)⟩
        · simp [intOf]; omega
      · have HY := hid (run_no (p := isS) (s := s) (a := k) (by simpa using hp))
        go_wp2_with (go_at_call 35; refine (symbol_raw _ _ (bt_nonneg s k) (bt_le s k)).mono ?_; rintro e w' ⟨rfl, rfl⟩)
        go_ret
        exact ⟨ret_int (by rw [← HP.out, HY.out]), rfl⟩
    · have HY := hid (run_end (p := isS) (s := s) (a := k) (by omega))
      go_wp2_with fail
      go_ret
      exact ⟨ret_int (by rw [← HP.out, HY.out]), rfl⟩
end Go.Proofs.YtcmhfeeocehlaaaGreatDoor
