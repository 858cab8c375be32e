/-
  Parse of the program and of the reference, of any text; Parse of a number's text.
-/
import Derived.Test.YtonfnkchpicoiaaRefParse2
import Derived.Test.YtonfnkchpicoiaaAwake1
namespace Go.Proofs.Ytonfnkchpicoiaa
set_option linter.unusedSimpArgs false
set_option linter.unusedVariables false
open Go.RowKit
attribute [local go_sem ↓] Go.wp_at_zero Go.wp_at_succ

theorem head_eq (s : ByteArray) (h : 0 < s.size) : s.data.toList = s[0] :: s.data.toList.tail := by
  have hl : 0 < s.data.toList.length := by rw [← Lib.size_eq]; exact h
  cases hs : s.data.toList with
  | nil => rw [hs] at hl; simp at hl
  | cons c r =>
    have : s[0] = s.data.toList[0]'hl := rfl
    rw [this]
    simp [hs]
theorem byte_eq (c : UInt8) (n : Nat) (hn : n < 256) : ((c.toNat : Int) == (n : Int)) = (c == UInt8.ofNat n) := by
  rw [Bool.eq_iff_iff, beq_iff_eq, beq_iff_eq]
  constructor
  · intro h
    apply UInt8.toNat_inj.1
    rw [UInt8.toNat_ofNat']
    omega
  · intro h
    rw [h, UInt8.toNat_ofNat']
    omega
theorem take1_eq (s : ByteArray) (h : 0 < s.size) : (s.data.toList.take 1 == [126]) = ((s[0].toNat : Int) == 126) := by
  rw [head_eq s h, show (126 : Int) = ((126 : Nat) : Int) from rfl, byte_eq _ 126 (by omega)]
  simp [List.take]
theorem PY_mono {w : World} {z : Int} {k k' : Nat} {e : Ending} {w' : World} (h : ParseYes w z k e w') (hk : k ≤ k') : ParseYes w z k' e w' := by
  obtain ⟨s, a, l, h1, h2, h3, h4, h5, h6, h7⟩ := h
  exact ⟨s, a, l, h1, h2, h3, h4, h5, by omega, h7⟩
theorem allDig_pos {t : ByteArray} (h : allDig t.data.toList = true) : 0 < t.size := by
  rw [Lib.size_eq]
  cases hl : t.data.toList with
  | nil => rw [hl] at h; simp [allDig] at h
  | cons _ _ => simp
theorem allDig_all {l : List UInt8} (h : allDig l = true) : l.all isDig = true := by
  unfold allDig at h; exact (Bool.and_eq_true_iff.1 h).1
theorem first_ne {t : ByteArray} (h : 0 < t.size) (hz : ((t[0].toNat : Int) == 48) = false) : t.data.toList.getD 0 0 ≠ 48 := by
  rw [head_eq t h, List.getD_cons_zero]
  rw [show (48 : Int) = ((48 : Nat) : Int) from rfl, byte_eq _ 48 (by omega)] at hz
  simpa using hz
theorem dval_pos {t : ByteArray} (ha : allDig t.data.toList = true) (hz : ((t[0]'(allDig_pos ha)).toNat : Int) ≠ 48) : dval t.data.toList ≠ 0 := by
  have h0 := allDig_pos ha
  have h1 := dval_low t.data.toList (allDig_all ha) (by rw [head_eq t h0]; simp) (first_ne h0 (by rw [beq_eq_false_iff_ne]; exact hz))
  have := Nat.pow_pos (n := t.data.toList.length - 1) (show 0 < 10 by omega)
  omega
theorem natParse_no (t : ByteArray) (hs : t.size ≤ maxLen) (ha : allDig t.data.toList = false) (w : World) : Calls Try.prog 62 #[.string t] w (NPNo w) := by
  by_cases h0 : t.size = 0
  · exact natParse_empty t w h0
  · by_cases hz : (((t[0]'(by omega)).toNat : Int) == 48) = true
    · by_cases h1 : t.size = 1
      · exact natParse_bad t w hs (by omega) (.inr ⟨hz, h1⟩) ha
      · exact natParse_zero t w hs (by omega) hz
    · exact natParse_bad t w hs (by omega) (.inl (by simpa using hz)) ha
theorem toList_48 {s : ByteArray} (h : 0 < s.size) (hz : ((s[0].toNat : Int) == 48) = false) : (s.toList == [48]) = false := by
  rw [Lib.toList_data, head_eq s h]
  rw [show (48 : Int) = ((48 : Nat) : Int) from rfl, byte_eq _ 48 (by omega)] at hz
  have : s[0] ≠ 48 := by simpa using hz
  simp [this]
theorem size_48 {s : ByteArray} (h : (s.toList == [48]) = true) : s.size = 1 := by
  rw [Lib.toList_data, beq_iff_eq] at h
  rw [Lib.size_eq, h]; rfl
theorem toList_one {s : ByteArray} (h : s.size = 1) (hz : ((s[0].toNat : Int) == 48) = true) : s.data.toList = [48] := by
  have h2 := head_eq s (by omega)
  rw [show (48 : Int) = ((48 : Nat) : Int) from rfl, byte_eq _ 48 (by omega)] at hz
  have h3 : s[0] = 48 := by simpa using hz
  rw [h3] at h2
  have h4 : s.data.toList.tail = [] := by
    apply List.length_eq_zero_iff.1
    rw [List.length_tail, ← Lib.size_eq, h]
  rw [h4] at h2
  exact h2

/-- of any text: both refuse it, or both answer the same number -/
theorem parse_both (s : ByteArray) (hs : s.size ≤ 100000000) :
    ((∀ w, Calls Try.prog 35 #[.string s] w (ParseNo w)) ∧ ∀ w, Calls Try.prog 36 #[.string s] w (ParseNo w)) ∨
    ∃ z : Int, (∀ w, Calls Try.prog 35 #[.string s] w (ParseYes w z s.size)) ∧ ∀ w, Calls Try.prog 36 #[.string s] w (ParseYes w z s.size) := by
  have hm : s.size ≤ maxLen := by unfold maxLen; omega
  by_cases h0 : s.size = 0
  · left
    have hl : s.data.toList = [] := List.length_eq_zero_iff.1 (by rw [← Lib.size_eq]; exact h0)
    refine ⟨fun w => parse_no1 s s false w hm (fun w => cut_no s w hm (by rw [hl]; rfl)) (by rw [hl]; rfl), fun w => rparse_no_empty s w h0⟩
  · have h0' : 0 < s.size := by omega
    by_cases h126 : ((s[0].toNat : Int) == 126) = true
    · have hcut := fun w => cut_yes s w hm (by rw [take1_eq s h0']; exact h126)
      have hs48 : (s.toList == [48]) = false := toList_48 h0' (by rw [beq_iff_eq] at h126; rw [h126]; rfl)
      obtain ⟨t, ht⟩ : ∃ t, s.extract 1 s.size = t := ⟨_, rfl⟩
      have htl : t.data.toList = s.data.toList.drop 1 := by
        rw [← ht, Lib.extract_data, List.take_of_length_le (by rw [List.length_drop, ← Lib.size_eq]; exact Nat.le_refl _)]
      have hts : t.size = s.size - 1 := by rw [Lib.size_eq, htl, List.length_drop, ← Lib.size_eq]
      rw [ht] at hcut
      have htm : t.size ≤ maxLen := by unfold maxLen; omega
      by_cases had : allDig t.data.toList = true
      · have ht0 := allDig_pos had
        by_cases hz : ((t[0].toNat : Int) == 48) = true
        · left
          refine ⟨fun w => parse_no2 s t true w htm hcut had ht0 hz hs48, fun w => ?_⟩
          by_cases h1 : t.size = 1
          · have e : dval t.data.toList = 0 := by rw [toList_one h1 hz]; rfl
            refine rparse_no_zero s t t.size w hm h0' h126 ht (fun w => ?_)
            have := natParse_good t w (by omega) ht0 (.inr ⟨hz, h1⟩) had
            rwa [e] at this
          · exact rparse_no_neg s t w hm h0' h126 ht (fun w => natParse_zero t w htm (by omega) hz)
        · right
          rw [Bool.not_eq_true] at hz
          have hne : dval t.data.toList ≠ 0 := dval_pos had (by rw [beq_eq_false_iff_ne] at hz; exact hz)
          refine ⟨-(dval t.data.toList : Int), fun w => ?_, fun w => ?_⟩
          · exact (parse_yes1 s t true w (by omega) hcut had ht0 hz).mono fun e w' h => PY_mono h (by omega)
          · exact (rparse_yes_neg s t _ t.size w hm h0' h126 ht hne (fun w => natParse_good t w (by omega) ht0 (.inl hz) had)).mono fun e w' h => PY_mono h (by omega)
      · left
        rw [Bool.not_eq_true] at had
        exact ⟨fun w => parse_no1 s t true w htm hcut had, fun w => rparse_no_neg s t w hm h0' h126 ht (fun w => natParse_no t htm had w)⟩
    · rw [Bool.not_eq_true] at h126
      have hcut := fun w => cut_no s w hm (by rw [take1_eq s h0']; exact h126)
      by_cases had : allDig s.data.toList = true
      · by_cases hz : ((s[0].toNat : Int) == 48) = true
        · by_cases h48 : (s.toList == [48]) = true
          · right
            refine ⟨(dval s.data.toList : Int), fun w => ?_, fun w => ?_⟩
            · exact parse_yes2 s s false w (by omega) hcut had h0' hz h48
            · exact rparse_yes_pos s _ s.size w hm h0' h126 (fun w => natParse_good s w (by omega) h0' (.inr ⟨hz, size_48 h48⟩) had)
          · left
            rw [Bool.not_eq_true] at h48
            have h1 : s.size ≠ 1 := by
              intro e
              rw [Lib.toList_data, toList_one e hz] at h48
              simp at h48
            exact ⟨fun w => parse_no2 s s false w hm hcut had h0' hz h48, fun w => rparse_no_pos s w hm h0' h126 (fun w => natParse_zero s w hm (by omega) hz)⟩
        · right
          rw [Bool.not_eq_true] at hz
          refine ⟨(dval s.data.toList : Int), fun w => ?_, fun w => ?_⟩
          · exact parse_yes1 s s false w (by omega) hcut had h0' hz
          · exact rparse_yes_pos s _ s.size w hm h0' h126 (fun w => natParse_good s w (by omega) h0' (.inl hz) had)
      · left
        rw [Bool.not_eq_true] at had
        exact ⟨fun w => parse_no1 s s false w hm hcut had, fun w => rparse_no_pos s w hm h0' h126 (fun w => natParse_no s hm had w)⟩

/-- a number's text is read as that number -/
theorem parse_text (z : Int) (t : ByteArray) (w : World) (ht : IsText z t.data.toList) (hs : t.size ≤ 100000000) : Calls Try.prog 35 #[.string t] w (ParseYes w z t.size) := by
  have hm : t.size ≤ maxLen := by unfold maxLen; omega
  rcases ht with ⟨h1, h2⟩ | ⟨h1, R, h2, h3, h4, h5, h6⟩
  · have hsz : t.size = 1 := by rw [Lib.size_eq, h2]; rfl
    have hh := head_eq t (by omega)
    rw [h2] at hh
    have h00 : t[0]'(by omega) = 48 := by have := List.cons.inj hh; exact this.1.symm
    have hz : (((t[0]'(by omega)).toNat : Int) == 48) = true := by rw [h00]; rfl
    have := parse_yes2 t t false w (by omega) (fun w => cut_no t w hm (by rw [h2]; rfl)) (by rw [h2]; rfl) (by omega) hz (by rw [Lib.toList_data, h2]; rfl)
    rw [h2] at this
    rw [h1]
    exact this
  · have hRd : allDig R = true := by
      unfold allDig
      rw [h3, Bool.true_and]
      cases R with
      | nil => exact absurd rfl h4
      | cons _ _ => rfl
    by_cases hneg : z < 0
    · rw [if_pos hneg] at h2
      have htk : (t.data.toList.take 1 == [126]) = true := by rw [h2]; rfl
      have hcut := fun w => cut_yes t w hm htk
      obtain ⟨u, hu⟩ : ∃ u, t.extract 1 t.size = u := ⟨_, rfl⟩
      have hul : u.data.toList = R := by
        rw [← hu, Lib.extract_data, List.take_of_length_le (by rw [List.length_drop, ← Lib.size_eq]; exact Nat.le_refl _), h2]; rfl
      have hus : u.size = R.length := by rw [Lib.size_eq, hul]
      have hts : t.size = R.length + 1 := by rw [Lib.size_eq, h2]; simp
      rw [hu] at hcut
      have hu0 : 0 < u.size := by rw [hus]; exact List.length_pos_iff.2 h4
      have hz : ((u[0].toNat : Int) == 48) = false := by
        have hh := head_eq u hu0
        rw [hul] at hh
        rw [hh, List.getD_cons_zero] at h5
        rw [show (48 : Int) = ((48 : Nat) : Int) from rfl, byte_eq _ 48 (by omega)]
        simpa using h5
      have := parse_yes1 t u true w (by omega) hcut (by rw [hul]; exact hRd) hu0 hz
      rw [hul, h6] at this
      refine this.mono fun e w' h => ?_
      have e1 : (if true = true then -((z.natAbs : Nat) : Int) else ((z.natAbs : Nat) : Int)) = z := by rw [if_pos rfl]; omega
      rw [e1] at h
      exact PY_mono h (by omega)
    · rw [if_neg hneg, List.nil_append] at h2
      have hts : t.size = R.length := by rw [Lib.size_eq, h2]
      have ht0 : 0 < t.size := by rw [hts]; exact List.length_pos_iff.2 h4
      have hh := head_eq t ht0
      rw [h2] at hh
      have hz : ((t[0].toNat : Int) == 48) = false := by
        rw [hh, List.getD_cons_zero] at h5
        rw [show (48 : Int) = ((48 : Nat) : Int) from rfl, byte_eq _ 48 (by omega)]
        simpa using h5
      have hd0 : isDig t[0] = true := by
        rw [hh] at h3
        simp only [List.all_cons, Bool.and_eq_true] at h3
        exact h3.1
      have h126 : ((t[0].toNat : Int) == 126) = false := by
        have := (isDig_iff _).1 hd0
        rw [beq_eq_false_iff_ne]
        omega
      have := parse_yes1 t t false w (by omega) (fun w => cut_no t w hm (by rw [take1_eq t ht0]; exact h126)) (by rw [h2]; exact hRd) ht0 hz
      rw [h2, h6] at this
      refine this.mono fun e w' h => ?_
      have e1 : (if false = true then -((z.natAbs : Nat) : Int) else ((z.natAbs : Nat) : Int)) = z := by rw [if_neg (by simp)]; omega
      rw [e1] at h
      exact h
end Go.Proofs.Ytonfnkchpicoiaa
