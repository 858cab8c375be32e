/-
  trim of the program, and made: what they answer.
-/
import Derived.Test.YtcmhfeeocehlaaaGreatDoorBase
namespace Go.Proofs.YtcmhfeeocehlaaaGreatDoor
set_option linter.unusedSimpArgs false
set_option linter.unusedVariables false
open Go.RowKit

/-- what trim answers -/
def TrimPost (w : World) (a : Option Addr) (l : List Nat) (e : Ending) (w' : World) : Prop :=
  ∃ a', e = .returned (.slice a' (tr l).length (tr l).length) ∧ w' = w ∧ (tr l = [] ∧ a' = none ∨ tr l ≠ [] ∧ a' = a)

set_option maxHeartbeats 400000 in
theorem trim_raw (a : Option Addr) (n c : Nat) (l : List Nat) (w : World) (h : SL w a n c l) :
    Calls Tryz.prog 101 #[.slice a n c] w (TrimPost w a l) := by
  obtain ⟨hlen, hcap, hbig, hcm, hlim, hnil, b, off, ha, hcell⟩ := h
  have hle := tl_le l n
  go_enter Tryz.func101, Tryz.ntmps101
  go_wp2
  go_step3
  go_wp2
  go_step3
  go_wp2
  go_loop [3] (fun i => ∃ k : Nat, k ≤ n ∧ i = .int .i64 k ∧ tl l k = tl l n) (fun i => (intOf i).toNat)
  case atStart => exact ⟨n, Nat.le_refl _, rfl, rfl⟩
  case round =>
    obtain ⟨k, hk, rfl, he⟩ := hrel
    have HE : Hid (tl l k = tl l n) := he
    clear he
    by_cases h0 : k = 0
    · subst h0
      go_wp2
      go_ret
      have e0 : tr l = [] := by
        have := HE.out
        unfold tr; rw [hlen, ← this]; simp [tl]
      exact ⟨none, by rw [e0]; rfl, rfl, .inl ⟨e0, rfl⟩⟩
    · obtain ⟨m, rfl⟩ : ∃ m, k = m + 1 := ⟨k - 1, by omega⟩
      obtain rfl := (ha (by omega)).1
      have hcm := hcell m (by omega)
      clear hcell ha hnil
      go_wp2
      · go_round
        case rel =>
          refine ⟨m, by omega, rfl, ?_⟩
          have hz : (((l[m]?.getD 0 : Nat) : Int) == 0) = true := by assumption
          rw [← HE.out, tl_zero l m (by rw [List.getD_eq_getElem?_getD]; have := eq_of_beq hz; omega)]
        case measure => simp [intOf]
      · go_ret
        have hz : (((l[m]?.getD 0 : Nat) : Int) == 0) = false := by assumption
        have e := HE.out
        have e1 : tl l (m + 1) = m + 1 := by
          unfold tl; rw [if_neg]; intro h; rw [List.getD_eq_getElem?_getD] at h; rw [h] at hz; simp at hz
        have e2 : (tr l).length = m + 1 := by rw [tr_length, hlen, ← e, e1]
        exact ⟨_, by rw [e2]; rfl, rfl, .inr ⟨by intro h; rw [h] at e2; simp at e2, rfl⟩⟩

/-- limbs trimmed in their place -/
theorem SL.trim {w : World} {a a' : Option Addr} {n c : Nat} {l : List Nat} (h : SL w a n c l) (ha : tr l = [] ∧ a' = none ∨ tr l ≠ [] ∧ a' = a) : SL w a' (tr l).length (tr l).length (tr l) := by
  rcases ha with ⟨e, rfl⟩ | ⟨e, rfl⟩
  · rw [e]; exact SL.nil' w
  · obtain ⟨h1, h2, h3, h3', h4, h5, b, off, ha, hc⟩ := h
    have hle : (tr l).length ≤ n := by rw [tr_length, h1]; exact tl_le l n
    have hpos : 0 < (tr l).length := List.length_pos_iff.2 e
    refine ⟨rfl, Nat.le_refl _, by omega, by omega, lims_tr h4, fun h => absurd (h5 h) (by omega), b, off, fun _ => ha (by omega), fun j hj => ?_⟩
    rw [hc j (by omega)]
    unfold tr at hj ⊢
    rw [getD_take]
    simp at hj; omega
theorem OW.trim {w : World} {B : Nat} {a a' : Option Addr} {n c : Nat} {l : List Nat} (h : OW w B a n c l) (ha : tr l = [] ∧ a' = none ∨ tr l ≠ [] ∧ a' = a) : OW w B a' (tr l).length (tr l).length (tr l) := by
  refine ⟨h.sl.trim ha, fun hp => ?_⟩
  rcases ha with ⟨e, rfl⟩ | ⟨e, rfl⟩
  · rw [e] at hp; simp at hp
  · have hle : (tr l).length ≤ n := by rw [tr_length, h.sl.len]; exact tl_le l n
    obtain ⟨g, off, L, e, hb, hr, hl⟩ := h.own (by omega)
    exact ⟨g, off, L, e, hb, hr, by omega⟩

/-- what made answers: limbs trimmed, a sign where there are any -/
def MadePost (w : World) (a : Option Addr) (s : Bool) (l : List Nat) (e : Ending) (w' : World) : Prop :=
  ∃ a', e = .returned (.agg #[.bool (s && !decide (tr l = [])), .slice a' (tr l).length (tr l).length]) ∧ w.grownBy w' none ∧ (tr l = [] ∧ a' = none ∨ tr l ≠ [] ∧ a' = a)

set_option maxHeartbeats 400000 in
theorem made_raw (s : Bool) (a : Option Addr) (n c : Nat) (l : List Nat) (w : World) (h : SL w a n c l) :
    Calls Tryz.prog 98 #[.bool s, .slice a n c] w (MadePost w a s l) := by
  have hd : decide (0 < (tr l).length) = decide (tr l ≠ []) := by
    cases h : tr l <;> simp
  cases s
  all_goals
    go_enter Tryz.func98, Tryz.ntmps98
    go_wp2_with (go_at_call 101; refine (trim_raw a n c l _ (h.grown (gb_alloc (gb_refl _ _) _))).mono ?_; rintro e w' ⟨a', rfl, rfl, ha⟩)
  · refine bodyPost_ret (v := .agg #[.bool false, .slice a' (tr l).length (tr l).length]) (by simp [results, Tryz.results98, go_sem]) rfl ⟨a', by simp, ?_, ha⟩
    repeat (first | exact gb_refl _ _ | apply gb_alloc | apply gb_drew)
  · refine bodyPost_ret (v := .agg #[.bool (!decide (tr l = [])), .slice a' (tr l).length (tr l).length]) (by simp [results, Tryz.results98, go_sem]) rfl ⟨a', by simp, ?_, ha⟩
    repeat (first | exact gb_refl _ _ | apply gb_alloc | apply gb_drew)
end Go.Proofs.YtcmhfeeocehlaaaGreatDoor
