/-
  sum of any two, difference: of limbs, in new memory.
-/
import Derived.Test.YtonfnkchpicoiaaSum
namespace Go.Proofs.Ytonfnkchpicoiaa
set_option linter.unusedSimpArgs false
set_option linter.unusedVariables false
open Go.RowKit

set_option maxHeartbeats 800000 in
theorem sum_short (a b : Option Addr) (n m c d : Nat) (x y : List Nat) (w : World) (hx : SL w a n c x) (hy : SL w b m d y) (hnm : m < n) (hsz : n + 1 ≤ 35184372088832) :
    Calls Try.prog 50 #[.slice b m d, .slice a n c] w (NewPost w (n + 1) fun N => val N = val x + val y) := by
  have hmk := fun u => make_row (n + 1) (by omega) u
  have ec : ((n + 1 : Nat) : Int) = (n : Int) + 1 := by omega
  rw [ec] at hmk
  have hxl := hx.len
  have hb1 := hx.big
  have hb2 := hy.big
  have hcut : (m : Int) < (n : Int) := by omega
  have hz := Made.new w (n + 1)
  have hx1 := hx.grown (World.grownBy_alloc w (.cells (madeCells #[.int .u32 0] (n + 1)) 47) none)
  have hoff : Off b m w.heap.size := Off.of_lt hy (Nat.le_refl _)
  have hxlim := hx.lim
  go_enter Try.func50, Try.ntmps50
  go_wp2_with (refine wp_copy rfl (.tmp 17) (.tmp 18) rfl a (some ⟨w.heap.size, 0, none⟩) n c (n + 1) 0 w.heap.size (n + 1) (n + 1) x rfl rfl hx1 (by omega) (by omega) hz (fun _ => rfl) ?_; intro w2 hr2 hg2)
  simp only [List.replicate_zero, List.nil_append, Nat.sub_zero, Nat.add_sub_cancel_left] at hr2
  refine (addInto_raw w.heap.size 0 (n + 1) (n + 1) [] (x ++ List.replicate 1 0) [] b m d y w2 (by simpa using hr2) rfl (by simp; omega) (lims_append.2 ⟨hxlim, lims_replicate 1⟩) hsz (Nat.le_refl _) (hy.kept (gb_trans (World.grownBy_alloc w _ none) hg2 (by simp) (fun i e _ => e)) (fun g e => by cases e; exact hoff)) hoff (by omega)).mono ?_
  rintro e w3 ⟨N, cc, rfl, hr3, hN, hNl, hcc, hv, hg3⟩
  go_wp2
  go_ret
  have hN' : N.length = n + 1 := by rw [hN]; simp; omega
  refine ⟨w.heap.size, N, rfl, by simpa using hr3, hN', hNl, Nat.le_refl _, ?_, gb_then (gb_then (World.grownBy_alloc w _ none) hg2 (fun i e => by cases e; exact Nat.le_refl _)) hg3 (fun i e => by cases e; exact Nat.le_refl _)⟩
  exact sum_val hxl hy.len hx.lim hy.lim (by omega) hN' hv

/-- what sum answers -/
def SumPost (w : World) (x y : List Nat) (e : Ending) (w' : World) : Prop :=
  ∃ a n N, e = .returned (.slice a n n) ∧ OW w' w.heap.size a n n N ∧ (N = [] → a ≠ none) ∧ val N = val x + val y ∧ n ≤ x.length + y.length + 1 ∧ w.grownBy w' none

theorem sum_raw (a b : Option Addr) (n m c d : Nat) (x y : List Nat) (w : World) (hx : SL w a n c x) (hy : SL w b m d y) (h1 : n + 1 ≤ 35184372088832) (h2 : m + 1 ≤ 35184372088832) :
    Calls Try.prog 50 #[.slice a n c, .slice b m d] w (SumPost w x y) := by
  have hl1 := hx.len
  have hl2 := hy.len
  by_cases h : m ≤ n
  · refine (sum_long a b n m c d x y w hx hy h h1).mono ?_
    rintro e w' ⟨g, N, rfl, hr, hN, hl, hB, hv, hg⟩
    exact ⟨_, n + 1, N, rfl, OW.of_row (L := []) (by simpa using hr) hB hN (Nat.le_refl _) h1 (by omega) hl, by simp, hv, by omega, hg⟩
  · refine (sum_short b a m n d c y x w hy hx (by omega) h2).mono ?_
    rintro e w' ⟨g, N, rfl, hr, hN, hl, hB, hv, hg⟩
    exact ⟨_, m + 1, N, rfl, OW.of_row (L := []) (by simpa using hr) hB hN (Nat.le_refl _) h2 (by omega) hl, by simp, by omega, by omega, hg⟩

theorem diff_val {x y N : List Nat} {n lack : Nat} (hx : x.length = n) (hN : N.length = n) (lN : Lims N) (hle : val y ≤ val x) (h : val N + 1 * val y = val x + B32 ^ x.length * lack) : val N = val x - val y := by
  have h1 := val_lt N lN
  rw [hN] at h1
  rw [hx] at h
  generalize B32 ^ n = p at *
  by_cases hc : lack = 0
  · subst hc; rw [Nat.mul_zero] at h; omega
  · have h4 : p ≤ p * lack := Nat.le_mul_of_pos_right p (by omega)
    generalize p * lack = r at *
    omega

/-- what difference answers -/
def DiffPost (w : World) (x y : List Nat) (e : Ending) (w' : World) : Prop :=
  ∃ a n N, e = .returned (.slice a n n) ∧ OW w' w.heap.size a n n N ∧ val N = val x - val y ∧ n = x.length ∧ w.grownBy w' none

set_option maxHeartbeats 800000 in
theorem difference_raw (a b : Option Addr) (n m c d : Nat) (x y : List Nat) (w : World) (hx : SL w a n c x) (hy : SL w b m d y) (hnm : m ≤ n) (hle : val y ≤ val x) :
    Calls Try.prog 51 #[.slice a n c, .slice b m d] w (DiffPost w x y) := by
  have hxl := hx.len
  have hb1 := hx.big
  have hb2 := hy.big
  have hmk := fun u => make_row n (by omega) u
  have hz := Made.new w n
  have hx1 := hx.grown (World.grownBy_alloc w (.cells (madeCells #[.int .u32 0] n) 47) none)
  have hoff : Off b m w.heap.size := Off.of_lt hy (Nat.le_refl _)
  have hxlim := hx.lim
  go_enter Try.func51, Try.ntmps51
  go_wp2_with (refine wp_copy rfl (.tmp 9) (.tmp 10) rfl a (some ⟨w.heap.size, 0, none⟩) n c n 0 w.heap.size n n x rfl rfl hx1 (by omega) (by omega) hz (fun _ => rfl) ?_; intro w2 hr2 hg2)
  simp only [List.replicate_zero, List.nil_append, Nat.sub_zero, Nat.sub_self, List.append_nil] at hr2
  refine (takeMultiple_raw w.heap.size 0 n n [] x [] b m d y 1 w2 (by simpa using hr2) rfl hxl hxlim hb1 (Nat.le_refl _) (by omega) (hy.kept (gb_trans (World.grownBy_alloc w _ none) hg2 (by simp) (fun i e _ => e)) (fun g e => by cases e; exact hoff)) hoff hnm).mono ?_
  rintro e w3 ⟨N, lack, rfl, hr3, hN, hNl, hlk, hv, hg3⟩
  go_wp2
  go_ret
  have hN' : N.length = n := by rw [hN]; exact hxl
  exact ⟨_, n, N, rfl, OW.of_row (L := []) (by simpa using hr3) (Nat.le_refl _) hN' (Nat.le_refl _) hb1 (by omega) hNl, diff_val hxl hN' hNl hle hv, hxl.symm, gb_then (gb_then (World.grownBy_alloc w _ none) hg2 (fun i e => by cases e; exact Nat.le_refl _)) hg3 (fun i e => by cases e; exact Nat.le_refl _)⟩
end Go.Proofs.Ytonfnkchpicoiaa
