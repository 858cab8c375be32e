/-
  The reference: natParse, Parse.
-/
import Derived.Test.YtonfnkchpicoiaaRefNat
import Derived.Test.YtonfnkchpicoiaaRefIs2
namespace Go.Proofs.Ytonfnkchpicoiaa
set_option linter.unusedSimpArgs false
set_option linter.unusedVariables false
open Go.RowKit
attribute [local go_sem ↓] Go.wp_at_zero Go.wp_at_succ

/-- what natParse answers of digits -/
def NPYes (w : World) (z k : Nat) (e : Ending) (w' : World) : Prop :=
  ∃ a l, e = .returned (.tuple #[.slice a l.length l.length, .bool true]) ∧ OW w' w.heap.size a l.length l.length l ∧ Nrm l ∧ Lims l ∧ val l = z ∧ l.length ≤ k ∧ w.grownBy w' none
def NPNo (w : World) (e : Ending) (w' : World) : Prop := e = .returned (.tuple #[.slice none 0 0, .bool false]) ∧ w' = w

theorem size0 (s : ByteArray) (h : s.size = 0) : (s.toList == []) = true := by
  have e : s.toList = [] := by
    have : s.toList.length = 0 := by rw [Lib.toList_data, ← Lib.size_eq]; exact h
    exact List.length_eq_zero_iff.1 this
  rw [e]; rfl
theorem size1 (s : ByteArray) (h : 0 < s.size) : (s.toList == []) = false := by
  have e : s.toList ≠ [] := by
    intro e
    have : s.toList.length = s.size := by rw [Lib.toList_data, ← Lib.size_eq]
    rw [e] at this
    simp at this
    omega
  cases hl : s.toList with
  | nil => exact absurd hl e
  | cons _ _ => rfl

set_option maxHeartbeats 800000 in
theorem natParse_empty (s : ByteArray) (w : World) (h : s.size = 0) : Calls Try.prog 62 #[.string s] w (NPNo w) := by
  have h0 := size0 s h
  go_enter Try.func62, Try.ntmps62
  go_wp2
  go_ret2
  exact ⟨rfl, rfl⟩
set_option maxHeartbeats 800000 in
theorem natParse_zero (s : ByteArray) (w : World) (hs : s.size ≤ maxLen) (h : 1 < s.size) (hz : ((s[0].toNat : Int) == 48) = true) : Calls Try.prog 62 #[.string s] w (NPNo w) := by
  have h0 := size1 s (by omega)
  unfold maxLen at hs
  have h1 : (1 : Int) < (s.size : Int) := by omega
  go_enter Try.func62, Try.ntmps62
  go_wp2
  go_ret2
  exact ⟨rfl, rfl⟩

theorem notDig_of {s : ByteArray} {k : Nat} (hk : k < s.size) (hd : ¬ isDig s[k] = true) (ha : allDig s.data.toList = true) : False := by
  have hm : s[k] ∈ s.data.toList := by
    have : s[k] = s.data.toList[k]'(by simpa using hk) := rfl
    rw [this]; exact List.getElem_mem _
  unfold allDig at ha
  exact hd (List.all_eq_true.1 (Bool.and_eq_true_iff.1 ha).1 _ hm)
theorem allDig_of {s : ByteArray} (h0 : 0 < s.size) (h : (s.data.toList.take s.size).all isDig = true) : allDig s.data.toList = true := by
  rw [List.take_of_length_le (by rw [← Lib.size_eq]; exact Nat.le_refl _)] at h
  unfold allDig
  rw [h, Bool.true_and]
  cases hl : s.data.toList with
  | nil => rw [Lib.size_eq, hl] at h0; simp at h0
  | cons _ _ => rfl

set_option maxHeartbeats 1600000 in
theorem natParse_bad (s : ByteArray) (w : World) (hs : s.size ≤ maxLen) (h : 0 < s.size) (hz : ((s[0].toNat : Int) == 48) = false ∨ (((s[0].toNat : Int) == 48) = true ∧ s.size = 1)) (hd : allDig s.data.toList = false) : Calls Try.prog 62 #[.string s] w (NPNo w) := by
  have h0 := size1 s h
  have HD := hid hd
  clear hd
  unfold maxLen at hs
  have h01 : (0 : Int) < (s.size : Int) := by omega
  rcases hz with hz | ⟨hz, hs1⟩
  all_goals
    try have hn1 : ¬ (1 : Int) < (s.size : Int) := by omega
    go_enter Try.func62, Try.ntmps62
    go_wp2
    go_loop [5] (fun i => ∃ k : Nat, k ≤ s.size ∧ i = .int .i64 k ∧ (s.data.toList.take k).all isDig = true) (fun i => s.size - (intOf i).toNat)
    case atStart => exact ⟨0, Nat.zero_le _, rfl, rfl⟩
    case round =>
      obtain ⟨k, hk, rfl, hall⟩ := hrel
      have HA := hid hall
      clear hall
      clear hz
      by_cases hlt : k < s.size
      · have HT := hid (take_snoc8 s k hlt)
        by_cases hd : isDig s[k] = true
        · have HD2 := hid hd
          have h2 : 48 ≤ (s[k].toNat : Int) ∧ (s[k].toNat : Int) ≤ 57 := by simp [isDig] at hd; omega
          obtain ⟨h3, h4⟩ := h2
          clear hd
          go_wp2
          go_round
          case rel => exact ⟨k + 1, by omega, by go_num, by rw [HT.out, List.all_append, HA.out]; simp [HD2.out]⟩
          case measure => simp [intOf]; omega
        · have h2 : (s[k].toNat : Int) < 48 ∨ 57 < (s[k].toNat : Int) := by simp [isDig] at hd; omega
          clear hd
          rcases h2 with h2 | h2
          · go_wp2
            go_ret2
            exact ⟨rfl, rfl⟩
          · have h3 : ¬ (s[k].toNat : Int) < 48 := by omega
            go_wp2
            go_ret2
            exact ⟨rfl, rfl⟩
      · have hks : k = s.size := by omega
        subst hks
        exact absurd (allDig_of h HA.out) (by rw [HD.out]; simp)

set_option maxHeartbeats 1600000 in
theorem natParse_good (s : ByteArray) (w : World) (hs : s.size ≤ 100000000) (h : 0 < s.size) (hz : ((s[0].toNat : Int) == 48) = false ∨ (((s[0].toNat : Int) == 48) = true ∧ s.size = 1)) (hd : allDig s.data.toList = true) : Calls Try.prog 62 #[.string s] w (NPYes w (dval s.data.toList) s.size) := by
  have h0 := size1 s h
  have HD := hid hd
  clear hd
  have h01 : (0 : Int) < (s.size : Int) := by omega
  rcases hz with hz | ⟨hz, hs1⟩
  all_goals
    try have hn1 : ¬ (1 : Int) < (s.size : Int) := by omega
    go_enter Try.func62, Try.ntmps62
    go_wp2
    go_loop [5] (fun i => ∃ k : Nat, k ≤ s.size ∧ i = .int .i64 k) (fun i => s.size - (intOf i).toNat)
    case atStart => exact ⟨0, Nat.zero_le _, rfl⟩
    case round =>
      obtain ⟨k, hk, rfl⟩ := hrel
      clear hz
      by_cases hlt : k < s.size
      · by_cases hd : isDig s[k] = true
        · have h2 : 48 ≤ (s[k].toNat : Int) ∧ (s[k].toNat : Int) ≤ 57 := by simp [isDig] at hd; omega
          obtain ⟨h3, h4⟩ := h2
          clear hd
          go_wp2
          go_round
          case rel => exact ⟨k + 1, by omega, by go_num⟩
          case measure => simp [intOf]; omega
        · exact absurd HD.out (fun e => notDig_of hlt hd e)
      · have hks : k = s.size := by omega
        subst hks
        go_wp2
        go_loopw [4, 6] (fun o i wr => ∃ (k : Nat) (a : Option Addr) (l : List Nat), k ≤ s.size ∧ i = .int .i64 k ∧ o = .slice a l.length l.length ∧ OW wr w.heap.size a l.length l.length l ∧ Nrm l ∧ Lims l ∧ val l = dval (s.data.toList.take k) ∧ l.length ≤ k ∧ w.grownBy wr none) (fun _ i _ => s.size - (intOf i).toNat)
        case atStart => exact ⟨0, none, [], by omega, rfl, rfl, OW.nil' _ _, .inl rfl, (by intro x hx; cases hx), rfl, by simp, gb_refl _ _⟩
        case round =>
          obtain ⟨k, a, l, hk, rfl, rfl, how, hn, hl, hv, hlk, hg⟩ := hrel
          have HV := hid hv
          clear hv
          by_cases hlt : k < s.size
          · have HT := hid (take_snoc8 s k hlt)
            by_cases hd : isDig s[k] = true
            · have h2 : 48 ≤ s[k].toNat ∧ s[k].toNat ≤ 57 := by simp [isDig] at hd; omega
              obtain ⟨h3, h4⟩ := h2
              have ec : ((s[k].toNat : Int) - 48) = ((s[k].toNat - 48 : Nat) : Int) := by omega
              clear hd
              go_wp2_with (go_at_call 72; refine (times_raw a _ _ 10 (s[k].toNat - 48) l _ how.sl (by omega) (by omega) (by omega)).mono ?_; rintro e w3 ⟨g3, l3, rfl, hr3, hn3, hlm3, hv3, hB3, hk3, hg3⟩; have HV3 := hid hv3; clear hv3)
              go_roundw
              case rel => exact ⟨k + 1, _, l3, by omega, by go_num, rfl, (RNat.ow hr3 hlm3 hB3 (by omega)).mono hg.size, hn3, hlm3, by rw [HV3.out, HV.out, HT.out, dval_snoc], by omega, gb_then hg hg3 (by simp)⟩
              case measure => simp [intOf]; omega
            · exact absurd HD.out (fun e => notDig_of hlt hd e)
          · have hks : k = s.size := by omega
            subst hks
            have HV2 : Hid (val l = dval s.data.toList) := by
              have := HV.out
              rwa [List.take_of_length_le (by rw [← Lib.size_eq]; exact Nat.le_refl _)] at this
            go_wp2
            go_ret2
            exact ⟨a, l, rfl, how, hn, hl, HV2.out, hlk, hg⟩
end Go.Proofs.Ytonfnkchpicoiaa
