/-
  Decimal texts are unlike for unlike numbers; the calls that awake makes, at their arguments.
-/
import Derived.Test.YtonfnkchpicoiaaText
import Derived.Test.YtonfnkchpicoiaaRefOf
import Derived.Test.YtonfnkchpicoiaaDivMod
namespace Go.Proofs.Ytonfnkchpicoiaa
set_option linter.unusedSimpArgs false
set_option linter.unusedVariables false
open Go.RowKit
attribute [local go_sem ↓] Go.wp_at_zero Go.wp_at_succ

theorem dval_cons (c : UInt8) (r : List UInt8) : dval (c :: r) = (c.toNat - 48) * 10 ^ r.length + dval r := by
  have := dval_append [c] r
  simpa [dval] using this
theorem isDig_iff (c : UInt8) : isDig c = true ↔ 48 ≤ c.toNat ∧ c.toNat ≤ 57 := by simp [isDig]
theorem dval_inj : ∀ (x y : List UInt8), x.length = y.length → x.all isDig = true → y.all isDig = true → dval x = dval y → x = y := by
  intro x
  induction x with
  | nil => intro y hl _ _ _; exact (List.length_eq_zero_iff.1 hl.symm).symm
  | cons c r ih =>
    intro y hl hx hy h
    cases y with
    | nil => simp at hl
    | cons c' r' =>
      simp only [List.all_cons, Bool.and_eq_true] at hx hy
      simp only [List.length_cons, Nat.add_right_cancel_iff] at hl
      have b1 := dval_lt r hx.2
      have b2 := dval_lt r' hy.2
      rw [dval_cons, dval_cons, ← hl] at h
      rw [← hl] at b2
      have h1 := (isDig_iff c).1 hx.1
      have h2 := (isDig_iff c').1 hy.1
      generalize 10 ^ r.length = P at *
      have e1 : c.toNat - 48 = c'.toNat - 48 := by
        rcases Nat.lt_trichotomy (c.toNat - 48) (c'.toNat - 48) with k | k | k
        · have := Nat.mul_le_mul_right P k
          rw [Nat.succ_mul] at this
          omega
        · exact k
        · have := Nat.mul_le_mul_right P k
          rw [Nat.succ_mul] at this
          omega
      have e2 : dval r = dval r' := by rw [e1] at h; omega
      have e3 : c = c' := UInt8.toNat_inj.1 (by omega)
      rw [e3, ih r' hl hx.2 hy.2 e2]
theorem dval_low (x : List UInt8) (h : x.all isDig = true) (hn : x ≠ []) (h0 : x.getD 0 0 ≠ 48) : 10 ^ (x.length - 1) ≤ dval x := by
  cases x with
  | nil => exact absurd rfl hn
  | cons c r =>
    simp only [List.all_cons, Bool.and_eq_true] at h
    have h1 := (isDig_iff c).1 h.1
    have h2 : c.toNat ≠ 48 := by
      intro e
      apply h0
      simp only [List.getD_cons_zero]
      exact UInt8.toNat_inj.1 (by rw [e]; rfl)
    rw [dval_cons, List.length_cons, Nat.add_sub_cancel]
    have := Nat.mul_le_mul_right (10 ^ r.length) (show 1 ≤ c.toNat - 48 by omega)
    omega
theorem dig_unique {x y : List UInt8} (hx : x.all isDig = true) (hy : y.all isDig = true) (nx : x ≠ []) (ny : y ≠ []) (fx : x.getD 0 0 ≠ 48) (fy : y.getD 0 0 ≠ 48) (h : dval x = dval y) : x = y := by
  refine dval_inj x y ?_ hx hy h
  have a1 := dval_low x hx nx fx
  have a2 := dval_low y hy ny fy
  have b1 := dval_lt x hx
  have b2 := dval_lt y hy
  have l1 := List.length_pos_iff.2 nx
  have l2 := List.length_pos_iff.2 ny
  rcases Nat.lt_trichotomy x.length y.length with k | k | k
  · have : 10 ^ x.length ≤ 10 ^ (y.length - 1) := Nat.pow_le_pow_right (by omega) (by omega)
    omega
  · exact k
  · have : 10 ^ y.length ≤ 10 ^ (x.length - 1) := Nat.pow_le_pow_right (by omega) (by omega)
    omega
theorem text_unique {z : Int} {t u : List UInt8} (h : IsText z t) (k : IsText z u) : t = u := by
  rcases h with ⟨h1, h2⟩ | ⟨h1, R, h2, h3, h4, h5, h6⟩
  · rcases k with ⟨_, k2⟩ | ⟨k1, _⟩
    · rw [h2, k2]
    · exact absurd h1 k1
  · rcases k with ⟨k1, _⟩ | ⟨_, S, k2, k3, k4, k5, k6⟩
    · exact absurd k1 h1
    · rw [h2, k2, dig_unique h3 k3 h4 k4 h5 k5 (h6.trans k6.symm)]

theorem text_awake (s : Bool) (a : Option Addr) (n c : Nat) (x : List Nat) (w : World) (hx : SL w a n c x) (hb : n ≤ 1000000000000) (hz : iv s x = 12884901888) :
    Calls Try.prog 37 #[.agg #[.bool s, .slice a n c]] w fun e w' => e = .returned (.string ⟨#[49, 50, 56, 56, 52, 57, 48, 49, 56, 56, 56]⟩) ∧ w.grownBy w' none := by
  refine (text_raw s a n c x w hx hb).mono ?_
  rintro e w' ⟨t, rfl, ht, _, hg⟩
  refine ⟨?_, hg⟩
  have h2 : IsText 12884901888 ([49, 50, 56, 56, 52, 57, 48, 49, 56, 56, 56] : List UInt8) := .inr ⟨by decide, [49, 50, 56, 56, 52, 57, 48, 49, 56, 56, 56], by decide, by decide, by decide, by decide, by decide⟩
  rw [hz] at ht
  have e := text_unique ht h2
  have : t = ⟨#[49, 50, 56, 56, 52, 57, 48, 49, 56, 56, 56]⟩ := by
    rw [← Lib.mk_data t, e]
  rw [this]

theorem parse_awake (w : World) : Calls Try.prog 35 #[.string ⟨#[126, 52, 50, 57, 52, 57, 54, 55, 50, 57, 54]⟩] w (ParseYes w (-4294967296) 10) := by
  have hs : (ByteArray.mk #[126, 52, 50, 57, 52, 57, 54, 55, 50, 57, 54]).size ≤ maxLen := by unfold maxLen; decide
  have h := parse_yes1 ⟨#[126, 52, 50, 57, 52, 57, 54, 55, 50, 57, 54]⟩ ((ByteArray.mk #[126, 52, 50, 57, 52, 57, 54, 55, 50, 57, 54]).extract 1 (ByteArray.mk #[126, 52, 50, 57, 52, 57, 54, 55, 50, 57, 54]).size) true w (by decide +kernel) (fun w => cut_yes _ w hs (by decide)) (by decide +kernel) (by decide +kernel) (by decide +kernel)
  have e : (dval ((ByteArray.mk #[126, 52, 50, 57, 52, 57, 54, 55, 50, 57, 54]).extract 1 (ByteArray.mk #[126, 52, 50, 57, 52, 57, 54, 55, 50, 57, 54]).size).data.toList : Int) = 4294967296 := by decide +kernel
  rw [e] at h
  exact h
end Go.Proofs.Ytonfnkchpicoiaa
