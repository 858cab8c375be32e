/-
  The reference's small functions: zero, fits.
-/
import Derived.Test.YtkbdgdcicflocaaToldA
import Derived.Test.YtkbdgdcicflocaaKept
namespace Go.Proofs.Ytkbdgdcicflocaa
set_option linter.unusedSimpArgs false
set_option linter.unusedVariables false
open Go.RowKit
attribute [local go_sem ↓] Go.wp_at_zero Go.wp_at_succ

theorem zb_at (l : List UInt8) (k : Nat) (h : k < l.length) (h0 : l[k] = 0) : zb l = true := by
  unfold zb
  rw [List.contains_iff_mem]
  exact h0 ▸ List.getElem_mem h
theorem zb_none (l : List UInt8) (h : ∀ k (hk : k < l.length), ¬ l[k] = 0) : zb l = false := by
  unfold zb
  rw [Bool.eq_false_iff]
  intro hc
  rw [List.contains_iff_mem, List.mem_iff_getElem] at hc
  obtain ⟨i, hi, e⟩ := hc
  exact h i hi e

set_option maxHeartbeats 1000000 in
set_option maxRecDepth 100000 in
theorem zero_raw (s : ByteArray) (w : World) (hs : s.size ≤ maxLen) : Calls Try.prog 58 #[.string s] w fun e w' => e = .returned (.bool (zb s.data.toList)) ∧ w' = w := by
  unfold maxLen at hs
  go_enter Try.func58, Try.ntmps58
  obtain ⟨m, hm⟩ : ∃ m, s.size = m := ⟨_, rfl⟩
  have hm63 : (m : Int) ≤ 9223372036854775807 := by omega
  have hget : ∀ j (hj : j < s.size), (s[j]'hj) = (s.data.toList[j]'(by simpa using hj)) := fun j hj => by
    rw [ByteArray.getElem_eq_getElem_data, Array.getElem_toList]
  have HG := hid hget
  clear hget hs
  go_wp2
  go_loop [3] (fun i => ∃ k : Nat, k ≤ m ∧ i = .int .i64 (k : Int) ∧ Hid (∀ j (hj : j < s.size), j < k → ¬ (s[j]'hj).toNat = 0)) (fun i => m - (intOf i).toNat)
  case atStart => exact ⟨0, by omega, rfl, hid (fun j _ h => by omega)⟩
  case round =>
    obtain ⟨k, hk, rfl, HP⟩ := hrel
    by_cases hlt : k < m
    · have hks : k < s.size := by omega
      have hks2 : (k : Int) < (s.size : Int) := by omega
      by_cases h0 : (s[k]'hks).toNat = 0
      · have hz : zb s.data.toList = true := zb_at _ k (by simpa using hks) (by rw [← HG.out k hks]; exact UInt8.toNat_inj.1 h0)
        have hd1 : (((s[k]'hks).toNat : Int) == 0) = true := by rw [h0]; rfl
        have HZ := hid hz
        clear h0 hz
        go_wp2
        go_ret
        exact ⟨ret_bool (by rw [HZ.out]), rfl⟩
      · have hd1 : (((s[k]'hks).toNat : Int) == 0) = false := by rw [beq_eq_false_iff_ne]; omega
        have H0 := hid h0
        clear h0
        go_wp2
        go_round
        case rel => exact ⟨k + 1, by omega, by go_num, hid (fun j hj h => by
          by_cases e : j = k
          · subst e; exact H0.out
          · exact HP.out j hj (by omega))⟩
        case measure => simp [intOf]; omega
    · obtain rfl : k = m := by omega
      have hz : zb s.data.toList = false := zb_none _ (fun j hj e => by
        have hj' : j < s.size := by simpa using hj
        apply HP.out j hj' (by omega)
        rw [HG.out j hj', e]
        rfl)
      have HZ := hid hz
      clear hz
      go_wp2
      go_ret
      exact ⟨ret_bool (by rw [HZ.out]), rfl⟩

set_option maxHeartbeats 1000000 in
set_option maxRecDepth 100000 in
theorem fits_raw (s : ByteArray) (w : World) (hs : s.size ≤ maxLen) : Calls Try.prog 29 #[.string s] w fun e w' => e = .returned (.bool (okName s)) ∧ w' = w := by
  have HZ := hid (zero_raw s w hs)
  have hu : okName s = (decide (1 ≤ s.size) && decide (s.size ≤ 255) && !zb s.data.toList) := rfl
  obtain ⟨z, hz⟩ : ∃ z, zb s.data.toList = z := ⟨_, rfl⟩
  rw [hz] at HZ hu
  unfold maxLen at hs
  have hs63 : (s.size : Int) ≤ 9223372036854775807 := by omega
  have HU := hid hu
  clear hu hz hs
  go_enter Try.func29, Try.ntmps29
  go_wp2_with (go_at_call 58; refine HZ.out.mono ?_; rintro e w' ⟨rfl, rfl⟩)
  · have h1 : 1 ≤ (s.size : Int) := by assumption
    have h2 : (s.size : Int) ≤ 255 := by assumption
    have e1 : decide (1 ≤ s.size) = true := by rw [decide_eq_true_iff]; omega
    have e2 : decide (s.size ≤ 255) = true := by rw [decide_eq_true_iff]; omega
    go_ret
    exact ⟨ret_bool (by rw [HU.out, e1, e2]; rfl), rfl⟩
  · have h2 : 255 < (s.size : Int) := by assumption
    have e2 : decide (s.size ≤ 255) = false := by rw [decide_eq_false_iff_not]; omega
    go_ret
    exact ⟨ret_bool (by rw [HU.out, e2]; simp), rfl⟩
  · have h2 : (s.size : Int) < 1 := by assumption
    have e2 : decide (1 ≤ s.size) = false := by rw [decide_eq_false_iff_not]; omega
    go_ret
    exact ⟨ret_bool (by rw [HU.out, e2]; simp), rfl⟩
end Go.Proofs.Ytkbdgdcicflocaa
