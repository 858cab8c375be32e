/-
  The reference's Of.
-/
import Derived.Test.YtonfnkchpicoiaaRefIs2
import Derived.Laws.BitsAllLaws
namespace Go.Proofs.Ytonfnkchpicoiaa
set_option linter.unusedSimpArgs false
set_option linter.unusedVariables false
open Go.RowKit
attribute [local go_sem ↓] Go.wp_at_zero Go.wp_at_succ

theorem and_mask (m : Nat) (h : m < 18446744073709551616) : bits .and .u64 (m : Int) 4294967295 = ((m % 4294967296 : Nat) : Int) := by
  have h1 := u64_and_nat m 4294967295 h (by omega)
  have h2 : m &&& 4294967295 = m % 4294967296 := Nat.and_two_pow_sub_one_eq_mod m 32
  rw [h2] at h1
  exact h1

theorem row_two' (w : World) (g m : Nat) (p q : Int) (hg : w.heap.size = g) (hp : p = ((m % 4294967296 : Nat) : Int)) (hq : q = ((m / 4294967296 : Nat) : Int)) : Row (w.alloc (.cells #[.int .u32 p, .int .u32 q] 47)) g ([m % 4294967296, m / 4294967296] ++ []) := by
  subst hg; subst hp; subst hq
  refine ⟨[], ?_⟩
  rw [heap_alloc_new]
  simp [cl]

set_option maxHeartbeats 1600000 in
theorem rof_pos (m : Nat) (w : World) (h1 : m ≤ 9223372036854775807) :
    Calls Try.prog 16 #[.int .i64 (m : Int)] w (RIntPost w (m : Int) 2) := by
  have hlt : ¬ (m : Int) < 0 := by omega
  have hd : decide ((m : Int) < 0) = false := by simp
  have ha := and_mask m (by omega)
  go_enter Try.func16, Try.ntmps16
  go_wp2_with (go_at_call 17; go_must (refine (rnorm_raw false _ 2 2 [m % 4294967296, m / 4294967296] _ (by refine OW.sl (B := 0) ?_; refine OW.of_row (L := []) ?_ (Nat.zero_le _) rfl (Nat.le_refl _) (by omega) (by omega) (lims_two (by omega) (by omega)); refine row_two' _ _ m _ _ (by simp) ?_ ?_ <;> omega)).mono ?_; rintro e w5 ⟨s5, a5, l5, rfl, ho5, hn5, hs5, hi5, hk5, hg5⟩; have HI5 := hid hi5; clear hi5; obtain ⟨hp5, hq5, hr5⟩ := box_kept w.heap.size hg5 (by first | (simp; done) | (simp; omega) | omega)))
  refine bodyPost_ret (v := .agg #[.bool s5, .slice a5 l5.length l5.length]) (by simp [results, Try.results16, go_sem, hp5, hr5, hq5]) rfl ?_
  exact rint_end (by repeat (first | exact gb_refl _ _ | apply gb_drew | apply gb_alloc | (refine gb_then ?_ (by assumption) (by simp)))) ho5 (g := w.heap.size) (by first | (simp; done) | (simp; omega) | omega) (Nat.le_refl _) (by first | (simp; done) | (simp; omega) | omega) hn5 hs5 (HI5.out.trans (by unfold iv; rw [val_two m (by omega)]; simp)) hk5 _ _

set_option maxHeartbeats 1600000 in
theorem rof_neg (m : Nat) (w : World) (h1 : m ≤ 9223372036854775808) (h2 : 0 < m) :
    Calls Try.prog 16 #[.int .i64 (-(m : Int))] w (RIntPost w (-(m : Int)) 2) := by
  have hlt : -(m : Int) < 0 := by omega
  have hd : decide (-(m : Int) < 0) = true := decide_eq_true hlt
  have ha := and_mask m (by omega)
  have hu : -(-(m : Int) + 1) + 1 = m := by omega
  go_enter Try.func16, Try.ntmps16
  go_wp2_with (go_at_call 17; go_must (refine (rnorm_raw true _ 2 2 [m % 4294967296, m / 4294967296] _ (by refine OW.sl (B := 0) ?_; refine OW.of_row (L := []) ?_ (Nat.zero_le _) rfl (Nat.le_refl _) (by omega) (by omega) (lims_two (by omega) (by omega)); refine row_two' _ _ m _ _ (by simp) ?_ ?_ <;> omega)).mono ?_; rintro e w5 ⟨s5, a5, l5, rfl, ho5, hn5, hs5, hi5, hk5, hg5⟩; have HI5 := hid hi5; clear hi5; obtain ⟨hp5, hq5, hr5⟩ := box_kept w.heap.size hg5 (by first | (simp; done) | (simp; omega) | omega)))
  refine bodyPost_ret (v := .agg #[.bool s5, .slice a5 l5.length l5.length]) (by simp [results, Try.results16, go_sem, hp5, hr5, hq5]) rfl ?_
  exact rint_end (by repeat (first | exact gb_refl _ _ | apply gb_drew | apply gb_alloc | (refine gb_then ?_ (by assumption) (by simp)))) ho5 (g := w.heap.size) (by first | (simp; done) | (simp; omega) | omega) (Nat.le_refl _) (by first | (simp; done) | (simp; omega) | omega) hn5 hs5 (HI5.out.trans (by unfold iv; rw [val_two m (by omega)]; simp)) hk5 _ _

theorem rof_raw (z : Int) (w : World) (h1 : -9223372036854775808 ≤ z) (h2 : z ≤ 9223372036854775807) : Calls Try.prog 16 #[.int .i64 z] w (RIntPost w z 2) := by
  by_cases h : z < 0
  · obtain ⟨m, rfl⟩ : ∃ m : Nat, z = -(m : Int) := ⟨z.natAbs, by omega⟩
    exact rof_neg m w (by omega) (by omega)
  · obtain ⟨m, rfl⟩ : ∃ m : Nat, z = (m : Int) := ⟨z.natAbs, by omega⟩
    exact rof_pos m w (by omega)
end Go.Proofs.Ytonfnkchpicoiaa
