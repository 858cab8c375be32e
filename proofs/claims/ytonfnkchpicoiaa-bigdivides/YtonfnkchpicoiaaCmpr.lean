/-
  cmp.Compare, compare: which of two is below the other.
-/
import Derived.Test.YtonfnkchpicoiaaClone
namespace Go.Proofs.Ytonfnkchpicoiaa
set_option linter.unusedSimpArgs false
set_option linter.unusedVariables false
open Go.RowKit

/-- -1, 0, 1 -/
def sgn (z : Int) : Int := if z < 0 then -1 else if z = 0 then 0 else 1

set_option maxHeartbeats 400000 in
theorem nanInt (a : Int) (w : World) : Calls Try.prog 67 #[.int .i64 a] w fun e w' => e = .returned (.bool false) ∧ w' = w := by
  go_enter Try.func67, Try.ntmps67
  go_wp2
  go_ret
  simp
set_option maxHeartbeats 400000 in
theorem nanU32 (a : Int) (w : World) : Calls Try.prog 78 #[.int .u32 a] w fun e w' => e = .returned (.bool false) ∧ w' = w := by
  go_enter Try.func78, Try.ntmps78
  go_wp2
  go_ret
  simp

set_option maxHeartbeats 400000 in
theorem cmpInt (a b : Int) (w : World) : Calls Try.prog 48 #[.int .i64 a, .int .i64 b] w fun e w' => e = .returned (.int .i64 (sgn (a - b))) ∧ w' = w := by
  by_cases h1 : a < b
  · have e : sgn (a - b) = -1 := by unfold sgn; rw [if_pos (by omega)]
    rw [e]; clear e
    go_enter Try.func48, Try.ntmps48
    go_wp2_with (go_at_call 67; refine (nanInt _ _).mono ?_; rintro e w' ⟨rfl, rfl⟩)
    go_ret
    exact ⟨rfl, rfl⟩
  · by_cases h2 : b < a
    · have e : sgn (a - b) = 1 := by unfold sgn; rw [if_neg (by omega), if_neg (by omega)]
      rw [e]; clear e
      go_enter Try.func48, Try.ntmps48
      go_wp2_with (go_at_call 67; refine (nanInt _ _).mono ?_; rintro e w' ⟨rfl, rfl⟩)
      go_ret
      exact ⟨rfl, rfl⟩
    · have e : sgn (a - b) = 0 := by unfold sgn; rw [if_neg (by omega), if_pos (by omega)]
      rw [e]; clear e
      go_enter Try.func48, Try.ntmps48
      go_wp2_with (go_at_call 67; refine (nanInt _ _).mono ?_; rintro e w' ⟨rfl, rfl⟩)
      go_ret
      exact ⟨rfl, rfl⟩

set_option maxHeartbeats 400000 in
theorem cmpU32 (a b : Int) (w : World) : Calls Try.prog 68 #[.int .u32 a, .int .u32 b] w fun e w' => e = .returned (.int .i64 (sgn (a - b))) ∧ w' = w := by
  by_cases h1 : a < b
  · have e : sgn (a - b) = -1 := by unfold sgn; rw [if_pos (by omega)]
    rw [e]; clear e
    go_enter Try.func68, Try.ntmps68
    go_wp2_with (go_at_call 78; refine (nanU32 _ _).mono ?_; rintro e w' ⟨rfl, rfl⟩)
    go_ret
    exact ⟨rfl, rfl⟩
  · by_cases h2 : b < a
    · have e : sgn (a - b) = 1 := by unfold sgn; rw [if_neg (by omega), if_neg (by omega)]
      rw [e]; clear e
      go_enter Try.func68, Try.ntmps68
      go_wp2_with (go_at_call 78; refine (nanU32 _ _).mono ?_; rintro e w' ⟨rfl, rfl⟩)
      go_ret
      exact ⟨rfl, rfl⟩
    · have e : sgn (a - b) = 0 := by unfold sgn; rw [if_neg (by omega), if_pos (by omega)]
      rw [e]; clear e
      go_enter Try.func68, Try.ntmps68
      go_wp2_with (go_at_call 78; refine (nanU32 _ _).mono ?_; rintro e w' ⟨rfl, rfl⟩)
      go_ret
      exact ⟨rfl, rfl⟩

theorem drop_step {x y : List Nat} {m : Nat} (hx : m < x.length) (hy : m < y.length) (h : x.getD m 0 = y.getD m 0) (hd : x.drop (m + 1) = y.drop (m + 1)) : x.drop m = y.drop m := by
  rw [List.drop_eq_getElem_cons hx, List.drop_eq_getElem_cons hy, hd]
  simp only [List.getD_eq_getElem?_getD, List.getElem?_eq_getElem hx, List.getElem?_eq_getElem hy, Option.getD_some] at h
  rw [h]

def CmpPost (w : World) (x y : List Nat) (e : Ending) (w' : World) : Prop := e = .returned (.int .i64 (sgn ((val x : Int) - val y))) ∧ w.grownBy w' none

set_option maxHeartbeats 800000 in
theorem compare_eq (a b : Option Addr) (n c d : Nat) (x y : List Nat) (w : World) (hx : SL w a n c x) (hy : SL w b n d y) (nx : Nrm x) (ny : Nrm y) :
    Calls Try.prog 49 #[.slice a n c, .slice b n d] w (CmpPost w x y) := by
  obtain ⟨hlen, hcap, hbig, hcm, hlim, _, ba, oa, ha, hca⟩ := hx
  obtain ⟨hlen', hcap', hbig', hcm', hlim', _, bb, ob, hb, hcb⟩ := hy
  go_enter Try.func49, Try.ntmps49
  go_wp2
  go_loopw [5] (fun i wr => ∃ k : Nat, k ≤ n ∧ i = .int .i64 ((k : Int) - 1) ∧ x.drop k = y.drop k ∧ w.grownBy wr none) (fun i _ => (intOf i + 1).toNat)
  case atStart => exact ⟨n, Nat.le_refl _, rfl, by rw [List.drop_of_length_le (by omega), List.drop_of_length_le (by omega)], gb_refl _ _⟩
  case round =>
    obtain ⟨k, hk, rfl, he, hg⟩ := hrel
    have HE : Hid (x.drop k = y.drop k) := he
    clear he
    by_cases h0 : k = 0
    · subst h0
      go_wp2
      go_ret
      have e := HE.out
      simp only [List.drop_zero] at e
      subst e
      exact ⟨by simp [sgn], hg⟩
    · obtain ⟨m, rfl⟩ : ∃ m, k = m + 1 := ⟨k - 1, by omega⟩
      obtain ⟨rfl, _⟩ := ha (by omega)
      obtain ⟨rfl, _⟩ := hb (by omega)
      have hcx := gb_cell hg (hca m (by omega)) (by simp)
      have hcy := gb_cell hg (hcb m (by omega)) (by simp)
      clear hca hcb ha hb
      have em : ((m + 1 : Nat) : Int) - 1 = (m : Int) := by omega
      rw [em]
      by_cases hxy : x.getD m 0 = y.getD m 0
      · rw [hxy] at hcx
        go_wp2
        go_quiet (fail)
        go_wp2
        go_roundw
        case rel => exact ⟨m, by omega, by go_num, drop_step (by omega) (by omega) hxy HE.out, gb_drewN hg _⟩
        case measure => simp [intOf]
      · have hne : (((x.getD m 0 : Nat) : Int) != ((y.getD m 0 : Nat) : Int)) = true := by rw [bne_iff_ne]; omega
        have hs : sgn (((x.getD m 0 : Nat) : Int) - ((y.getD m 0 : Nat) : Int)) = sgn ((val x : Int) - val y) := by
          have e := HE.out
          rcases Nat.lt_or_gt_of_ne hxy with h | h
          · have := lt_at hlim (by omega) (by omega) e h
            unfold sgn; rw [if_pos (by omega), if_pos (by omega)]
          · have := lt_at hlim' (by omega) (by omega) e.symm h
            unfold sgn; rw [if_neg (by omega), if_neg (by omega), if_neg (by omega), if_neg (by omega)]
        have HS : Hid (sgn (((x.getD m 0 : Nat) : Int) - ((y.getD m 0 : Nat) : Int)) = sgn ((val x : Int) - val y)) := hs
        clear hs hxy
        have hm0 : (0 : Int) ≤ (m : Int) := by omega
        have hmn : (m : Int) < (n : Int) := by omega
        generalize x.getD m 0 = p at *
        generalize y.getD m 0 = q at *
        go_wp2
        go_quiet (fail)
        go_wp2
        go_region_with (go_at_call 68; refine (cmpU32 _ _ _).mono ?_; rintro e w' ⟨rfl, rfl⟩)
        all_goals go_wp2
        all_goals go_ret
        all_goals exact ⟨ret_int HS.out, ⟨hg.os, hg.tape, hg.output, hg.size, hg.block⟩⟩

set_option maxHeartbeats 400000 in
theorem compare_raw (a b : Option Addr) (n m c d : Nat) (x y : List Nat) (w : World) (hx : SL w a n c x) (hy : SL w b m d y) (nx : Nrm x) (ny : Nrm y) :
    Calls Try.prog 49 #[.slice a n c, .slice b m d] w (CmpPost w x y) := by
  by_cases hnm : n = m
  · subst hnm
    exact compare_eq a b n c d x y w hx hy nx ny
  · have hs : sgn ((n : Int) - (m : Int)) = sgn ((val x : Int) - val y) := by
      have h1 := hx.len
      have h2 := hy.len
      rcases Nat.lt_or_gt_of_ne hnm with h | h
      · have := lt_of_length hx.lim ny (by omega)
        unfold sgn; rw [if_pos (by omega), if_pos (by omega)]
      · have := lt_of_length hy.lim nx (by omega)
        unfold sgn; rw [if_neg (by omega), if_neg (by omega), if_neg (by omega), if_neg (by omega)]
    have HS : Hid (sgn ((n : Int) - (m : Int)) = sgn ((val x : Int) - val y)) := hs
    have hne : ((n : Int) != (m : Int)) = true := by rw [bne_iff_ne]; omega
    have hb1 := hx.big
    have hb2 := hy.big
    clear hs hx hy
    go_enter Try.func49, Try.ntmps49
    go_wp2_with (go_at_call 48; refine (cmpInt _ _ _).mono ?_; rintro e w' ⟨rfl, rfl⟩)
    go_ret
    exact ⟨ret_int HS.out, gb_refl _ _⟩
end Go.Proofs.Ytonfnkchpicoiaa
