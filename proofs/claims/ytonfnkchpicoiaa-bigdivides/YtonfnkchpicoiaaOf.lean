/-
  Of, Valid, Int64 of the program.
-/
import Derived.Test.YtonfnkchpicoiaaMul
namespace Go.Proofs.Ytonfnkchpicoiaa
set_option linter.unusedSimpArgs false
set_option linter.unusedVariables false
open Go.RowKit
attribute [local go_sem ↓] Go.wp_at_zero Go.wp_at_succ

theorem row_two (w : World) (g m : Nat) (hg : w.heap.size = g) : Row (w.alloc (.cells #[.int .u32 ((m : Int) % 4294967296), .int .u32 ((m : Int) / 4294967296)] 47)) g ([m % 4294967296, m / 4294967296] ++ []) := by
  subst hg
  refine ⟨[], ?_⟩
  rw [heap_alloc_new]
  simp [cl]
theorem lims_two {p q : Nat} (hp : p < 4294967296) (hq : q < 4294967296) : Lims [p, q] := by
  intro x hx; simp at hx; omega
theorem val_two (m : Nat) (h : m < 18446744073709551616) : val [m % 4294967296, m / 4294967296] = m := by
  simp only [val, B32_eq]; omega
theorem wrap_neg (m : Nat) (h : m ≤ 9223372036854775808) (h0 : 0 < m) : IntKind.u64.wrap (-IntKind.u64.wrap (-(m : Int))) = m := by
  simp only [IntKind.wrap, IntKind.signed, IntKind.bits]
  simp
  omega

set_option maxHeartbeats 1600000 in
theorem of_neg (m : Nat) (w : World) (h1 : m ≤ 9223372036854775808) (h2 : 0 < m) :
    Calls Try.prog 10 #[.int .i64 (-(m : Int))] w (IntPost w (-(m : Int)) 2) := by
  have hw := wrap_neg m h1 h2
  have hlt : -(m : Int) < 0 := by omega
  have hd : decide (-(m : Int) < 0) = true := by simpa using h2
  go_enter Try.func10, Try.ntmps10
  go_wp2_with (go_at_call 43; refine (made_own true (w.heap.size + 1) _ 2 2 [m % 4294967296, m / 4294967296] _ (by exact OW.of_row (L := []) (row_two _ _ m (by simp)) (by simp) rfl (Nat.le_refl _) (by omega) (by omega) (lims_two (by omega) (by omega)))).mono ?_; rintro e w5 ⟨s5, a5, l5, rfl, ho5, hn5, hs5, hi5, hk5, ha5, hg5⟩; obtain ⟨hp5, hq5, hr5⟩ := box_kept w.heap.size hg5 (by first | (simp; done) | (simp; omega) | omega))
  refine bodyPost_ret (v := .agg #[.bool s5, .slice a5 l5.length l5.length]) (by simp [results, Try.results10, go_sem, hp5, hr5, hq5]) rfl ?_
  refine int_end (by repeat (first | exact gb_refl _ _ | apply gb_drew | apply gb_alloc | (refine gb_then ?_ (by assumption) (by simp)))) ho5 (g := w.heap.size) (by first | (simp; done) | (simp; omega) | omega) (by omega) (by first | (simp; done) | (simp; omega) | omega) hn5 hs5 (hi5.trans (by unfold iv; rw [val_two m (by omega)]; simp)) hk5 ha5 _ _

set_option maxHeartbeats 1600000 in
theorem of_pos (m : Nat) (w : World) (h1 : m ≤ 9223372036854775807) :
    Calls Try.prog 10 #[.int .i64 (m : Int)] w (IntPost w (m : Int) 2) := by
  have hlt : ¬ (m : Int) < 0 := by omega
  have hd : decide ((m : Int) < 0) = false := by simp
  go_enter Try.func10, Try.ntmps10
  go_wp2_with (go_at_call 43; refine (made_own false (w.heap.size + 1) _ 2 2 [m % 4294967296, m / 4294967296] _ (by exact OW.of_row (L := []) (row_two _ _ m (by simp)) (by simp) rfl (Nat.le_refl _) (by omega) (by omega) (lims_two (by omega) (by omega)))).mono ?_; rintro e w5 ⟨s5, a5, l5, rfl, ho5, hn5, hs5, hi5, hk5, ha5, hg5⟩; obtain ⟨hp5, hq5, hr5⟩ := box_kept w.heap.size hg5 (by first | (simp; done) | (simp; omega) | omega))
  refine bodyPost_ret (v := .agg #[.bool s5, .slice a5 l5.length l5.length]) (by simp [results, Try.results10, go_sem, hp5, hr5, hq5]) rfl ?_
  refine int_end (by repeat (first | exact gb_refl _ _ | apply gb_drew | apply gb_alloc | (refine gb_then ?_ (by assumption) (by simp)))) ho5 (g := w.heap.size) (by first | (simp; done) | (simp; omega) | omega) (by omega) (by first | (simp; done) | (simp; omega) | omega) hn5 hs5 (hi5.trans (by unfold iv; rw [val_two m (by omega)]; simp)) hk5 ha5 _ _

theorem of_raw (z : Int) (w : World) (h1 : -9223372036854775808 ≤ z) (h2 : z ≤ 9223372036854775807) : Calls Try.prog 10 #[.int .i64 z] w (IntPost w z 2) := by
  by_cases h : z < 0
  · obtain ⟨m, rfl⟩ : ∃ m : Nat, z = -(m : Int) := ⟨z.natAbs, by omega⟩
    exact of_neg m w (by omega) (by omega)
  · obtain ⟨m, rfl⟩ : ∃ m : Nat, z = (m : Int) := ⟨z.natAbs, by omega⟩
    exact of_pos m w (by omega)

/-- an integer stands as it should -/
def Std (s : Bool) (l : List Nat) : Bool := if l.length = 0 then !s else decide ((tr l).length = l.length)

set_option maxHeartbeats 800000 in
theorem valid_raw (s : Bool) (a : Option Addr) (n c : Nat) (x : List Nat) (w : World) (hx : SL w a n c x) :
    Calls Try.prog 13 #[.agg #[.bool s, .slice a n c]] w (BoolPost w (Std s x)) := by
  have hl := hx.len
  by_cases h0 : n = 0
  · have HS : Hid (Std s x = !s) := by unfold Std; rw [if_pos (by omega)]; exact rfl
    have hd : ((n : Int) == 0) = true := by rw [h0]; rfl
    go_enter Try.func13, Try.ntmps13
    go_wp2
    go_ret
    exact ⟨ret_bool HS.out.symm, (by repeat (first | exact gb_refl _ _ | apply gb_drew | apply gb_alloc | (refine gb_then ?_ (by assumption) (by simp))))⟩
  · have HS : Hid (Std s x = (((tr x).length : Int) == (n : Int))) := by
      unfold Std; rw [if_neg (by omega), hl]
      show _ = _
      rw [Bool.eq_iff_iff]; simp; omega
    have hd : ((n : Int) == 0) = false := by rw [beq_eq_false_iff_ne]; omega
    go_enter Try.func13, Try.ntmps13
    go_wp2
    go_region_held3 (fun w' => w'.cell? ⟨w.heap.size, 1, none⟩ = some (.slice a n c)) (go_keep) (first
      | (go_at_call 44; refine (trim_raw a n c x _ (by exact hx.grown (by repeat (first | exact gb_refl _ _ | apply gb_drew | apply gb_alloc | (refine gb_then ?_ (by assumption) (by simp)))))).mono ?_; rintro e w1 ⟨a1, rfl, rfl, ha1⟩))
    all_goals go_wp2
    all_goals go_ret
    all_goals exact ⟨ret_bool HS.out.symm, (by repeat (first | exact gb_refl _ _ | apply gb_drew | apply gb_alloc | (refine gb_then ?_ (by assumption) (by simp))))⟩
end Go.Proofs.Ytonfnkchpicoiaa
