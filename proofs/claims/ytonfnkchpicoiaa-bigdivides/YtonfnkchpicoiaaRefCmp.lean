/-
  The reference: at, natCmp, Norm, Sign, Cmp, Same, Valid, Is.
-/
import Derived.Test.YtonfnkchpicoiaaRefBase
namespace Go.Proofs.Ytonfnkchpicoiaa
set_option linter.unusedSimpArgs false
set_option linter.unusedVariables false
open Go.RowKit
attribute [local go_sem ↓] Go.wp_at_zero Go.wp_at_succ

set_option maxHeartbeats 400000 in
theorem at_raw (a : Option Addr) (n c k : Nat) (l : List Nat) (w : World) (h : SL w a n c l) (hk : k ≤ 1000000000000000) :
    Calls Try.prog 71 #[.slice a n c, .int .i64 (k : Int)] w fun e w' => e = .returned (.int .u64 ((l.getD k 0 : Nat) : Int)) ∧ w' = w := by
  obtain ⟨hlen, hcap, hbig, hcm, hlim, hnil, b, off, ha, hcell⟩ := h
  by_cases hlt : k < n
  · obtain ⟨rfl, _⟩ := ha (by omega)
    have hck := hcell k hlt
    have hl := lims_getD hlim k
    clear hcell ha
    generalize l.getD k 0 = p at *
    go_enter Try.func71, Try.ntmps71
    go_wp2
    go_ret
    exact ⟨rfl, rfl⟩
  · have HZ : Hid (l.getD k 0 = 0) := by
      show _ = _
      rw [List.getD_eq_getElem?_getD, List.getElem?_eq_none (by omega)]; rfl
    have hnlt : ¬ (k : Int) < (n : Int) := by omega
    clear hcell ha
    go_enter Try.func71, Try.ntmps71
    go_wp2
    go_ret
    exact ⟨by first | rfl | (rw [HZ.out]; rfl), rfl⟩

theorem natcmp_step {A B P p q : Nat} (hA : A < P) (hB : B < P) : sgn (((A + P * p : Nat) : Int) - ((B + P * q : Nat) : Int)) = if p < q then -1 else if q < p then 1 else sgn ((A : Int) - B) := by
  by_cases h1 : p < q
  · rw [if_pos h1]
    have : P * (p + 1) ≤ P * q := Nat.mul_le_mul_left _ h1
    rw [Nat.mul_add] at this
    unfold sgn; rw [if_pos (by omega)]
  · rw [if_neg h1]
    by_cases h2 : q < p
    · rw [if_pos h2]
      have : P * (q + 1) ≤ P * p := Nat.mul_le_mul_left _ h2
      rw [Nat.mul_add] at this
      unfold sgn; rw [if_neg (by omega), if_neg (by omega)]
    · have e : p = q := by omega
      subst e
      rw [if_neg h2]
      congr 1
      omega
theorem take_lt (l : List Nat) (h : Lims l) (k : Nat) : val (l.take k) < B32 ^ k := by
  have h1 := val_lt (l.take k) (lims_take h k)
  have h2 := pow_mono (show (l.take k).length ≤ k by rw [List.length_take]; omega)
  omega
theorem sgn_range (z : Int) : -1 ≤ sgn z ∧ sgn z ≤ 1 := by unfold sgn; split <;> (try split) <;> omega

set_option maxHeartbeats 1600000 in
theorem natCmp_raw (a b : Option Addr) (n m c d : Nat) (x y : List Nat) (w : World) (hx : SL w a n c x) (hy : SL w b m d y) (hn : n ≤ 100000000000000) (hm : m ≤ 100000000000000) :
    Calls Try.prog 53 #[.slice a n c, .slice b m d] w fun e w' => e = .returned (.int .i64 (sgn ((val x : Int) - val y))) ∧ w' = w := by
  have hxl := hx.len
  have hyl := hy.len
  go_enter Try.func53, Try.ntmps53
  go_wp2
  go_loop [5, 6] (fun o i => ∃ k : Nat, k ≤ 100000000000000 ∧ (k ≤ n ∨ k ≤ m) ∧ i = .int .i64 k ∧ o = .int .i64 (sgn ((val (x.take k) : Int) - val (y.take k)))) (fun _ i => n + m - (intOf i).toNat)
  case atStart => exact ⟨0, by omega, by omega, rfl, by simp [val, sgn]⟩
  case round =>
    obtain ⟨k, hk, hkk, rfl, rfl⟩ := hrel
    have HR := hid (sgn_range ((val (x.take k) : Int) - val (y.take k)))
    by_cases hlt : k < n ∨ k < m
    · have HS : Hid (sgn ((val (x.take (k + 1)) : Int) - val (y.take (k + 1))) = if x.getD k 0 < y.getD k 0 then -1 else if y.getD k 0 < x.getD k 0 then 1 else sgn ((val (x.take k) : Int) - val (y.take k))) := by
        show _ = _
        rw [val_take_succ, val_take_succ]
        exact natcmp_step (take_lt x hx.lim k) (take_lt y hy.lim k)
      have hg : (decide ((k : Int) < (n : Int)) || decide ((k : Int) < (m : Int))) = true := by simp; omega
      have hbx := lims_getD hx.lim k
      have hby := lims_getD hy.lim k
      have HX : Hid (∀ w', w' = w → Calls Try.prog 71 #[.slice a n c, .int .i64 (k : Int)] w' fun e w'' => e = .returned (.int .u64 ((x.getD k 0 : Nat) : Int)) ∧ w'' = w') := fun w' e => by subst e; exact at_raw a n c k x _ hx (by omega)
      have HY : Hid (∀ w', w' = w → Calls Try.prog 71 #[.slice b m d, .int .i64 (k : Int)] w' fun e w'' => e = .returned (.int .u64 ((y.getD k 0 : Nat) : Int)) ∧ w'' = w') := fun w' e => by subst e; exact at_raw b m d k y _ hy (by omega)
      generalize x.getD k 0 = p at *
      generalize y.getD k 0 = q at *
      generalize sgn ((val (x.take k) : Int) - val (y.take k)) = so at *
      by_cases h1 : p < q
      · have h2 : ¬ q < p := by omega
        rw [if_pos h1] at HS
        by_cases hkn : k < n
        · have hkn' : (k : Int) < (n : Int) := by omega
          all_goals
            go_wp2_with (first
              | (go_at_call_of 71 (Value.slice a n c); refine (HX.out _ rfl).mono ?_; rintro e w' ⟨rfl, rfl⟩)
              | (go_at_call_of 71 (Value.slice b m d); refine (HY.out _ rfl).mono ?_; rintro e w' ⟨rfl, rfl⟩))
            go_round
            case rel => exact ⟨k + 1, by omega, by omega, by go_num, by rw [HS.out]⟩
            case measure => simp [intOf]; omega
        · have hkn' : ¬ (k : Int) < (n : Int) := by omega
          have hkm' : (k : Int) < (m : Int) := by omega
          all_goals
            go_wp2_with (first
              | (go_at_call_of 71 (Value.slice a n c); refine (HX.out _ rfl).mono ?_; rintro e w' ⟨rfl, rfl⟩)
              | (go_at_call_of 71 (Value.slice b m d); refine (HY.out _ rfl).mono ?_; rintro e w' ⟨rfl, rfl⟩))
            go_round
            case rel => exact ⟨k + 1, by omega, by omega, by go_num, by rw [HS.out]⟩
            case measure => simp [intOf]; omega
      · rw [if_neg h1] at HS
        by_cases h2 : q < p
        · rw [if_pos h2] at HS
          by_cases hkn : k < n
          · have hkn' : (k : Int) < (n : Int) := by omega
            all_goals
              go_wp2_with (first
                | (go_at_call_of 71 (Value.slice a n c); refine (HX.out _ rfl).mono ?_; rintro e w' ⟨rfl, rfl⟩)
                | (go_at_call_of 71 (Value.slice b m d); refine (HY.out _ rfl).mono ?_; rintro e w' ⟨rfl, rfl⟩))
              go_round
              case rel => exact ⟨k + 1, by omega, by omega, by go_num, by rw [HS.out]⟩
              case measure => simp [intOf]; omega
          · have hkn' : ¬ (k : Int) < (n : Int) := by omega
            have hkm' : (k : Int) < (m : Int) := by omega
            all_goals
              go_wp2_with (first
                | (go_at_call_of 71 (Value.slice a n c); refine (HX.out _ rfl).mono ?_; rintro e w' ⟨rfl, rfl⟩)
                | (go_at_call_of 71 (Value.slice b m d); refine (HY.out _ rfl).mono ?_; rintro e w' ⟨rfl, rfl⟩))
              go_round
              case rel => exact ⟨k + 1, by omega, by omega, by go_num, by rw [HS.out]⟩
              case measure => simp [intOf]; omega
        · rw [if_neg h2] at HS
          by_cases hkn : k < n
          · have hkn' : (k : Int) < (n : Int) := by omega
            all_goals
              go_wp2_with (first
                | (go_at_call_of 71 (Value.slice a n c); refine (HX.out _ rfl).mono ?_; rintro e w' ⟨rfl, rfl⟩)
                | (go_at_call_of 71 (Value.slice b m d); refine (HY.out _ rfl).mono ?_; rintro e w' ⟨rfl, rfl⟩))
              go_round
              case rel => exact ⟨k + 1, by omega, by omega, by go_num, by rw [HS.out]⟩
              case measure => simp [intOf]; omega
          · have hkn' : ¬ (k : Int) < (n : Int) := by omega
            have hkm' : (k : Int) < (m : Int) := by omega
            all_goals
              go_wp2_with (first
                | (go_at_call_of 71 (Value.slice a n c); refine (HX.out _ rfl).mono ?_; rintro e w' ⟨rfl, rfl⟩)
                | (go_at_call_of 71 (Value.slice b m d); refine (HY.out _ rfl).mono ?_; rintro e w' ⟨rfl, rfl⟩))
              go_round
              case rel => exact ⟨k + 1, by omega, by omega, by go_num, by rw [HS.out]⟩
              case measure => simp [intOf]; omega
    · have hk1 : ¬ (k : Int) < (n : Int) := by omega
      have hk2 : ¬ (k : Int) < (m : Int) := by omega
      have HE : Hid (sgn ((val (x.take k) : Int) - val (y.take k)) = sgn ((val x : Int) - val y)) := by
        show _ = _
        rw [List.take_of_length_le (by omega), List.take_of_length_le (by omega)]
      generalize sgn ((val (x.take k) : Int) - val (y.take k)) = so at *
      go_wp2
      go_ret
      exact ⟨ret_int HE.out, rfl⟩
end Go.Proofs.Ytonfnkchpicoiaa
