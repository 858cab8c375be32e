/-
  DivMod of the program, told as one, whatever is divided by; quotient and rest are but these.
-/
import Derived.Test.YtonfnkchpicoiaaDivAll
namespace Go.Proofs.Ytonfnkchpicoiaa
set_option linter.unusedSimpArgs false
set_option linter.unusedVariables false
open Go.RowKit
attribute [local go_sem ↓] Go.wp_at_zero Go.wp_at_succ

theorem dm_le {a b q r q' r' : Int} (h : DM a b q r) (h' : DM a b q' r') : ¬ q < q' := by
  intro hlt
  obtain ⟨h1, h2⟩ := h
  obtain ⟨h3, h4⟩ := h'
  rcases h2 with ⟨k1, k2⟩ | ⟨k1, k2⟩
  · have hb : 0 < b := by omega
    have := Int.mul_le_mul_of_nonneg_right (show q + 1 ≤ q' by omega) (show 0 ≤ b by omega)
    rw [Int.add_mul, Int.one_mul] at this
    omega
  · have hb : b < 0 := by omega
    have := Int.mul_le_mul_of_nonpos_right (show q + 1 ≤ q' by omega) (show b ≤ 0 by omega)
    rw [Int.add_mul, Int.one_mul] at this
    omega
theorem dm_unique {a b q r q' r' : Int} (h : DM a b q r) (h' : DM a b q' r') : q = q' ∧ r = r' := by
  have h1 := dm_le h h'
  have h2 := dm_le h' h
  have e : q = q' := by omega
  subst e
  refine ⟨rfl, ?_⟩
  have := h.1
  have := h'.1
  omega

/-- quotient and rest, or two noughts where it is divided by 0 -/
def DD (za zb q r : Int) : Prop := if zb = 0 then q = 0 ∧ r = 0 else DM za zb q r
theorem dd_unique {a b q r q' r' : Int} (h : DD a b q r) (h' : DD a b q' r') : q = q' ∧ r = r' := by
  unfold DD at h h'
  split at h
  · rw [if_pos (by assumption)] at h'
    omega
  · rw [if_neg (by assumption)] at h'
    exact dm_unique h h'
def derr (zb : Int) : Int := if zb = 0 then 10 else 0

/-- what DivMod answers, of any two -/
def DPost (w : World) (za zb : Int) (k : Nat) (e : Ending) (w' : World) : Prop :=
  ∃ sq aq lq sr ar lr, e = .returned (.tuple #[.agg #[.bool sq, .slice aq lq.length lq.length], .agg #[.bool sr, .slice ar lr.length lr.length], .int .i64 (derr zb)]) ∧
    OW w' w.heap.size aq lq.length lq.length lq ∧ OW w' w.heap.size ar lr.length lr.length lr ∧ Apart aq lq.length ar lr.length ∧ Nrm lq ∧ Nrm lr ∧ (sq = true → lq ≠ []) ∧ (sr = true → lr ≠ []) ∧
    DD za zb (iv sq lq) (iv sr lr) ∧ lq.length ≤ k ∧ lr.length ≤ k ∧ w.grownBy w' none

theorem iv_zero {t : Bool} {y : List Nat} : iv t y = 0 ↔ tr y = [] := by
  constructor
  · intro h
    apply val_zero_nrm (nrm_tr y)
    rw [val_tr]
    unfold iv at h
    split at h <;> omega
  · intro h
    have : val y = 0 := by rw [← val_tr, h]; rfl
    unfold iv
    rw [this]
    simp

theorem divmod_wide (s t : Bool) (a b : Option Addr) (n c m d : Nat) (x y : List Nat) (w : World) (hx : SL w a n c x) (hy : SL w b m d y) (h1 : n + 5 ≤ 35184372088832) (h1' : m + 5 ≤ 35184372088832) :
    Calls Try.prog 33 #[.agg #[.bool s, .slice a n c], .agg #[.bool t, .slice b m d]] w (DPost w (iv s x) (iv t y) (n + m + 5)) := by
  by_cases h0 : tr y = []
  · have hz : iv t y = 0 := iv_zero.2 h0
    refine (divmod_zero s t a b n c m d x y w hx hy h0).mono ?_
    rintro e w' ⟨rfl, hg⟩
    refine ⟨false, none, [], false, none, [], by rw [hz]; rfl, OW.nil' _ _, OW.nil' _ _, fun h => by simp at h, .inl rfl, .inl rfl, by simp, by simp, ?_, by simp, by simp, hg⟩
    unfold DD
    rw [if_pos hz]
    exact ⟨rfl, rfl⟩
  · have hz : ¬ iv t y = 0 := fun e => h0 (iv_zero.1 e)
    refine (divmod_nz s t a b n c m d x y w hx hy h0 h1 h1').mono ?_
    rintro e w' ⟨sq, aq, lq, sr, ar, lr, rfl, h2, h3, h4, h5, h6, h7, h8, h9, h10, h11, h12⟩
    refine ⟨sq, aq, lq, sr, ar, lr, ?_, h2, h3, h4, h5, h6, h7, h8, ?_, h10, h11, h12⟩
    · unfold derr; rw [if_neg hz]
    · unfold DD; rw [if_neg hz]; exact h9

theorem divmod_any (s t : Bool) (a b : Option Addr) (n c m d : Nat) (x y : List Nat) (w : World) (hx : SL w a n c x) (hy : SL w b m d y) (h1 : n + m + 5 ≤ 35184372088832) :
    Calls Try.prog 33 #[.agg #[.bool s, .slice a n c], .agg #[.bool t, .slice b m d]] w (DPost w (iv s x) (iv t y) (n + m + 5)) :=
  divmod_wide s t a b n c m d x y w hx hy (by omega) (by omega)
end Go.Proofs.Ytonfnkchpicoiaa
