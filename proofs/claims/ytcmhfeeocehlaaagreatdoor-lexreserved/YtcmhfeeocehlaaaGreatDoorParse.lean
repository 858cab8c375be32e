/-
  The texts' way in: allDigits, magnitudeOf, CutPrefix, Parse of the program.
-/
import Derived.Test.YtcmhfeeocehlaaaGreatDoorMulAdd
import Derived.Lib.Strings
namespace Go.Proofs.YtcmhfeeocehlaaaGreatDoor
set_option linter.unusedSimpArgs false
set_option linter.unusedVariables false
open Go.RowKit
attribute [local go_sem ↓] Go.wp_at_zero Go.wp_at_succ

/-- the number that decimal digits say -/
def dval (l : List UInt8) : Nat := l.foldl (fun a c => a * 10 + (c.toNat - 48)) 0
def isDig (c : UInt8) : Bool := decide (48 ≤ c.toNat) && decide (c.toNat ≤ 57)
def allDig (l : List UInt8) : Bool := l.all isDig && !l.isEmpty

theorem take_snoc8 (s : ByteArray) (k : Nat) (h : k < s.size) : s.data.toList.take (k + 1) = s.data.toList.take k ++ [s[k]] := by
  rw [List.take_succ_eq_append_getElem (by simpa using h)]; rfl

set_option maxHeartbeats 800000 in
theorem allDigits_raw (s : ByteArray) (w : World) (hs : s.size ≤ maxLen) :
    Calls Tryz.prog 97 #[.string s] w fun e w' => e = .returned (.bool (allDig s.data.toList)) ∧ w' = w := by
  unfold maxLen at hs
  go_enter Tryz.func97, Tryz.ntmps97
  go_wp2
  go_loop [6] (fun i => ∃ k : Nat, k ≤ s.size ∧ i = .int .i64 k ∧ (s.data.toList.take k).all isDig = true) (fun i => s.size - (intOf i).toNat)
  case atStart => exact ⟨0, Nat.zero_le _, rfl, rfl⟩
  case round =>
    obtain ⟨k, hk, rfl, hall⟩ := hrel
    have HA := hid1 hall
    clear hall
    by_cases hlt : k < s.size
    · have HT := hid1 (take_snoc8 s k hlt)
      by_cases hd : isDig s[k] = true
      · have HD2 := hid1 hd
        have h2 : 48 ≤ (s[k].toNat : Int) ∧ (s[k].toNat : Int) ≤ 57 := by simp [isDig] at hd; omega
        obtain ⟨h3, h4⟩ := h2
        clear hd
        go_wp2
        go_round
        case rel => exact ⟨k + 1, by omega, by go_num, by rw [HT.out, List.all_append, HA.out]; simp [HD2.out]⟩
        case measure => simp [intOf]; omega
      · have HN : Hid (allDig s.data.toList = false) := by
          have hm : s[k] ∈ s.data.toList := by
            have : s[k] = s.data.toList[k]'(by simpa using hlt) := rfl
            rw [this]; exact List.getElem_mem _
          show allDig _ = false
          unfold allDig
          rw [Bool.and_eq_false_iff]
          left
          rw [List.all_eq_false]
          exact ⟨_, hm, hd⟩
        have h2 : (s[k].toNat : Int) < 48 ∨ 57 < (s[k].toNat : Int) := by simp [isDig] at hd; omega
        clear hd
        rcases h2 with h2 | h2
        · go_wp2
          go_ret
          exact ⟨ret_bool1 HN.out.symm, rfl⟩
        · have h3 : ¬ (s[k].toNat : Int) < 48 := by omega
          go_wp2
          go_ret
          exact ⟨ret_bool1 HN.out.symm, rfl⟩
    · have hks : k = s.size := by omega
      have HN : Hid (allDig s.data.toList = decide (0 < s.size)) := by
        have h1 := HA.out
        rw [List.take_of_length_le (by simp; omega)] at h1
        show allDig _ = _
        unfold allDig
        rw [h1, Bool.true_and, Bool.eq_iff_iff]
        have e : s.data.toList.length = s.size := by rw [Array.length_toList]; rfl
        cases hl : s.data.toList with
        | nil =>
          have e' : s.size = 0 := by rw [← e, hl]; rfl
          simp [e']
        | cons x r =>
          have e' : s.size = r.length + 1 := by rw [← e, hl]; rfl
          simp [e']
      subst hks
      go_wp2
      go_ret
      exact ⟨ret_bool1 (by rw [HN.out]), rfl⟩

theorem take1 (s : ByteArray) : (s.extract 0 1).toList = s.data.toList.take 1 := by
  rw [Lib.extract_toList]; simp

set_option maxHeartbeats 800000 in
theorem hasPrefix_one (s : ByteArray) (w : World) (hs : s.size ≤ maxLen) :
    Calls Tryz.prog 71 #[.string s, .string ⟨#[126]⟩] w fun e w' => e = .returned (.bool (s.data.toList.take 1 == [126])) ∧ w' = w := by
  unfold maxLen at hs
  have HT := hid1 (take1 s)
  by_cases h1 : 1 ≤ s.size
  · have h1' : (1 : Int) ≤ (s.size : Int) := by omega
    go_enter Tryz.func71, Tryz.ntmps71
    go_wp2
    go_ret
    exact ⟨ret_bool1 (by rw [HT.out]), rfl⟩
  · have HN : Hid ((s.data.toList.take 1 == [126]) = false) := by
      have e : s.data.toList.length = s.size := by rw [Array.length_toList]; rfl
      have : s.data.toList = [] := List.length_eq_zero_iff.1 (by omega)
      show _ = _
      rw [this]; rfl
    go_enter Tryz.func71, Tryz.ntmps71
    go_wp2
    go_ret
    exact ⟨ret_bool1 HN.out.symm, rfl⟩

set_option maxHeartbeats 800000 in
theorem cut_yes (s : ByteArray) (w : World) (hs : s.size ≤ maxLen) (h : (s.data.toList.take 1 == [126]) = true) :
    Calls Tryz.prog 80 #[.string s, .string ⟨#[126]⟩] w fun e w' => e = .returned (.tuple #[.string (s.extract 1 s.size), .bool true]) ∧ w' = w := by
  have h1 : 1 ≤ s.size := by
    have e : s.data.toList.length = s.size := by rw [Array.length_toList]; rfl
    have := congrArg List.length (eq_of_beq h)
    simp at this
    omega
  have hs' := hs
  unfold maxLen at hs'
  have h1' : (1 : Int) ≤ (s.size : Int) := by omega
  go_enter Tryz.func80, Tryz.ntmps80
  go_wp2_with (first | (go_at_call 71; refine (hasPrefix_one s _ hs).mono ?_; rintro e w' ⟨rfl, rfl⟩) | go_in)
  go_ret2
  exact ⟨rfl, rfl⟩
set_option maxHeartbeats 800000 in
theorem cut_no (s : ByteArray) (w : World) (hs : s.size ≤ maxLen) (h : (s.data.toList.take 1 == [126]) = false) :
    Calls Tryz.prog 80 #[.string s, .string ⟨#[126]⟩] w fun e w' => e = .returned (.tuple #[.string s, .bool false]) ∧ w' = w := by
  go_enter Tryz.func80, Tryz.ntmps80
  go_wp2_with (first | (go_at_call 71; refine (hasPrefix_one s _ hs).mono ?_; rintro e w' ⟨rfl, rfl⟩) | go_in)
  go_ret2
  exact ⟨rfl, rfl⟩

/-- so many bytes of a text -/
def strSize : Value → Nat | .string t => t.size | _ => 0

theorem dval_snoc (l : List UInt8) (c : UInt8) : dval (l ++ [c]) = dval l * 10 + (c.toNat - 48) := by simp [dval]
theorem foldl_dval (l : List UInt8) (a : Nat) : l.foldl (fun a c => a * 10 + (c.toNat - 48)) a = a * 10 ^ l.length + dval l := by
  induction l generalizing a with
  | nil => simp [dval]
  | cons c l ih =>
    simp only [List.foldl_cons, List.length_cons, dval, Nat.zero_mul, Nat.zero_add]
    rw [ih, ih (c.toNat - 48), Nat.pow_succ]
    grind
theorem dval_append (l r : List UInt8) : dval (l ++ r) = dval l * 10 ^ r.length + dval r := by
  unfold dval
  rw [List.foldl_append, foldl_dval]
  rfl
theorem dval_lt (l : List UInt8) (h : l.all isDig = true) : dval l < 10 ^ l.length := by
  have key : ∀ (r : List UInt8), r.all isDig = true → dval r < 10 ^ r.length := by
    intro r
    induction r with
    | nil => intro _; simp [dval]
    | cons c r ih =>
      intro h
      simp only [List.all_cons, Bool.and_eq_true] at h
      have h1 := ih h.2
      have h2 : c.toNat - 48 ≤ 9 := by have := h.1; simp [isDig] at this; omega
      have e : dval (c :: r) = (c.toNat - 48) * 10 ^ r.length + dval r := by
        have := dval_append [c] r
        simpa [dval] using this
      rw [e, List.length_cons, Nat.pow_succ]
      have h3 : (c.toNat - 48) * 10 ^ r.length ≤ 9 * 10 ^ r.length := Nat.mul_le_mul_right _ h2
      omega
  exact key l h

/-- what magnitudeOf answers -/
def MagPost (w : World) (z : Nat) (k : Nat) (e : Ending) (w' : World) : Prop :=
  ∃ a n c N, e = .returned (.slice a n c) ∧ HD w' w.heap.size a n c N ∧ val N = z ∧ n ≤ k ∧ w.grownBy w' none

set_option maxHeartbeats 1600000 in
theorem magnitudeOf_raw (s : ByteArray) (w : World) (hs : s.size ≤ 1000000000000) (hd : s.data.toList.all isDig = true) :
    Calls Tryz.prog 99 #[.string s] w (MagPost w (dval s.data.toList) s.size) := by
  go_enter Tryz.func99, Tryz.ntmps99
  go_wp2
  go_loopw [0, 3] (fun st mg wr => ∃ (j : Nat) (t : ByteArray) (a : Option Addr) (n c : Nat) (N : List Nat), st = .string t ∧ t.data.toList = s.data.toList.drop j ∧ j ≤ s.size ∧ (t.size % 9 = 0 ∨ j = 0) ∧ mg = .slice a n c ∧ HD wr w.heap.size a n c N ∧
      val N = dval (s.data.toList.take j) ∧ n ≤ j ∧ w.grownBy wr none) (fun st _ _ => strSize st)
  case atStart => exact ⟨0, s, none, 0, 0, [], rfl, by simp, by omega, .inr rfl, rfl, HD.nil' _ _, by simp [val, dval], by omega, gb_refl _ _⟩
  case round =>
    obtain ⟨j, t, a, n, c, N, rfl, ht, hj, h9, rfl, hHD, hv, hn, hg⟩ := hrel
    have HV := hid1 hv
    have HT := hid1 ht
    clear hv ht
    have hsl : s.data.toList.length = s.size := by rw [Array.length_toList]; rfl
    have htl : t.data.toList.length = t.size := by rw [Array.length_toList]; rfl
    have hts : t.size = s.size - j := by rw [← htl, HT.out, List.length_drop, hsl]
    have HTS := hid1 hts
    have hle : t.size ≤ 1000000000000 := by omega
    have HTL := hid1 htl
    have HSL := hid1 hsl
    have hjs : t.size + j = s.size := by omega
    have HJ := hid1 hjs
    clear hts htl hsl hjs
    by_cases h0 : t.size = 0
    · have hn0 : ¬ (0 : Int) < (t.size : Int) := by omega
      go_wp2
      go_ret
      have e : j = s.size := by have := HJ.out; omega
      have hv := HV.out
      rw [e, List.take_of_length_le (by rw [HSL.out]; exact Nat.le_refl _)] at hv
      exact ⟨a, n, c, N, rfl, hHD, hv, by omega, hg⟩
    · have h1 : 1 ≤ t.size := by omega
      have hp1 : (t.size - 1) % 9 + 1 ≤ 9 := by omega
      have hp2 : (t.size - 1) % 9 + 1 ≤ t.size := by omega
      have hp3 : ((t.size : Int) - 1) % 9 + 1 = (((t.size - 1) % 9 + 1 : Nat) : Int) := by omega
      generalize hp : (t.size - 1) % 9 + 1 = p at *
      have HP := hid1 hp
      have htd : t.data.toList.all isDig = true := by
        rw [HT.out]
        rw [List.all_eq_true] at hd ⊢
        intro x hx
        exact hd x (List.mem_of_mem_drop hx)
      clear hp
      have hb9 : decide (0 < t.size) = true := decide_eq_true (by omega)
      go_wp2
      go_loop [5, 16] (fun gr i => ∃ k : Nat, k ≤ p ∧ i = .int .i64 k ∧ gr = .int .u32 ((dval (t.data.toList.take k) : Nat) : Int)) (fun _ i => p - (intOf i).toNat)
      case atStart => exact ⟨0, by omega, rfl, by simp [dval]⟩
      case round =>
        obtain ⟨k, hk, rfl, rfl⟩ := hrel
        have htk : (t.data.toList.take k).all isDig = true := by
          rw [List.all_eq_true] at htd ⊢
          intro x hx
          exact htd x (List.mem_of_mem_take hx)
        have hlt10 := dval_lt _ htk
        have hlk : (t.data.toList.take k).length = k := by rw [List.length_take, HTL.out]; omega
        rw [hlk] at hlt10
        have hp10 : (10 : Nat) ^ k ≤ 10 ^ 9 := Nat.pow_le_pow_right (by omega) (by omega)
        have e109 : (10 : Nat) ^ 9 = 1000000000 := by decide
        have hg9 : dval (t.data.toList.take k) < 1000000000 := by omega
        by_cases hlt : k < p
        · have hp8 : (10 : Nat) ^ k ≤ 10 ^ 8 := Nat.pow_le_pow_right (by omega) (by omega)
          have e108 : (10 : Nat) ^ 8 = 100000000 := by decide
          have hg8 : dval (t.data.toList.take k) < 100000000 := by omega
          have hkt : k < t.size := by omega
          have HS := hid1 (take_snoc8 t k hkt)
          have hdk : isDig t[k] = true := by
            rw [List.all_eq_true] at htd
            have : t[k] = t.data.toList[k]'(by rw [HTL.out]; exact hkt) := rfl
            rw [this]; exact htd _ (List.getElem_mem _)
          have h2 : 48 ≤ (t[k].toNat : Int) ∧ (t[k].toNat : Int) ≤ 57 := by simp [isDig] at hdk; omega
          obtain ⟨h3, h4⟩ := h2
          have HD1 : Hid (dval (t.data.toList.take (k + 1)) = dval (t.data.toList.take k) * 10 + (t[k].toNat - 48)) := by
            rw [HS.out, dval_snoc]; exact rfl
          clear hlt10 hp10 e109 hp8 e108 hdk htk hlk
          generalize dval (t.data.toList.take k) = gv at *
          go_wp2
          go_round
          case rel => exact ⟨k + 1, by omega, by go_num, by rw [HD1.out]; go_num⟩
          case measure => simp [intOf]; omega
        · have hkp : k = p := by omega
          subst hkp
          clear hlt10 hp10 e109 htk hlk
          generalize hgv : dval (t.data.toList.take k) = gv at *
          have HGV := hid1 hgv
          clear hgv
          go_wp2_with (go_at_call 110; refine (multiplyAdd_raw w.heap.size a n c 1000000000 gv N _ hHD hg.size (by omega) (by omega) (by omega)).mono ?_; rintro e w1 ⟨a1, n1, c1, N1, rfl, hHD1, hv1, hn1, hg1⟩; have HV1 := hid1 hv1; clear hv1)
          have hJ := HJ.out
          have hP := HP.out
          have hT := HT.out
          have hTL := HTL.out
          have hex : (t.extract k t.size).data.toList = s.data.toList.drop (j + k) := by
            rw [Lib.extract_data, hT, List.drop_drop, List.take_of_length_le (by rw [List.length_drop, HSL.out]; omega)]
          have hexs : (t.extract k t.size).size = t.size - k := by
            rw [Lib.size_eq, hex, List.length_drop, HSL.out]; omega
          have hv : val N1 = dval (s.data.toList.take (j + k)) := by
            rw [HV1.out, HV.out, List.take_add, dval_append, ← hT, HGV.out, List.length_take, hTL, Nat.min_eq_left (by omega)]
            rcases h9 with h9 | h9
            · have : k = 9 := by omega
              rw [this]
            · rw [h9]; simp [dval]
          have hgr : w.grownBy w1 none := gb_then hg hg1 (fun i e => by rw [block_eq a n 0 n c] at e; exact (hHD.own.lt i e).1)
          clear hJ hT hTL
          go_roundw
          case rel => exact ⟨j + k, t.extract k t.size, a1, n1, c1, N1, rfl, hex, by have := HJ.out; omega, by rw [hexs]; omega, rfl, hHD1, hv, by omega, hgr⟩
          case measure =>
            show (t.extract k t.size).size < t.size
            rw [hexs]; omega
end Go.Proofs.YtcmhfeeocehlaaaGreatDoor
