/-
  divide and DivMod of the program, of any two.
-/
import Derived.Test.YtonfnkchpicoiaaDivLong2
import Derived.Test.YtonfnkchpicoiaaDivMod
namespace Go.Proofs.Ytonfnkchpicoiaa
set_option linter.unusedSimpArgs false
set_option linter.unusedVariables false
open Go.RowKit
attribute [local go_sem ↓] Go.wp_at_zero Go.wp_at_succ

set_option maxHeartbeats 800000 in
theorem divide_long (a b : Option Addr) (n m c d : Nat) (x y : List Nat) (w : World) (hx : SL w a m c x) (hy : SL w b (n + 2) d y) (nx : Nrm x) (ny : Nrm y) (hge : val y ≤ val x) (hbm : m + 1 ≤ 35184372088832) :
    Calls Try.prog 57 #[.slice a m c, .slice b (n + 2) d] w (DivPost w x y) := by
  have hsg : ¬ sgn ((val x : Int) - val y) < 0 := by unfold sgn; rw [if_neg (by omega)]; split <;> omega
  have hl : y.length ≤ x.length := length_le_of_val ny hx.lim hge
  rw [hx.len, hy.len] at hl
  have he1 : ((n : Int) + 2 == 1) = false := by rw [beq_eq_false_iff_ne]; omega
  obtain ⟨k0, hk0, hk1⟩ : ∃ k0, k0 + (n + 1) = m ∧ 1 ≤ k0 := ⟨m - (n + 1), by omega, by omega⟩
  go_enter Try.func57, Try.ntmps57
  go_wp2_with (first
    | (go_at_call 49; refine (compare_raw a b m (n + 2) c d x y _ hx hy nx ny).mono ?_; rintro e w1 ⟨rfl, hg1⟩)
    | (go_at_call 74; refine (divideLong_raw a b n m c d k0 x y _ (by exact hx.grown hg1) (by exact hy.grown hg1) ny hk0 hk1 hbm).mono ?_; rintro e w2 ⟨aq, nq, cq, Q, ar, nr, cr, R, rfl, hoq, hor, hap, hv, hlt, hnq, hnr, hg2⟩))
  go_ret2
  exact ⟨aq, nq, cq, Q, ar, nr, cr, R, rfl, hoq.mono hg1.size, hor.mono hg1.size, hap, hv, hlt, hnq, hnr, gb_then hg1 hg2 (by simp)⟩

theorem divide_raw (a b : Option Addr) (n m c d : Nat) (x y : List Nat) (w : World) (hx : SL w a n c x) (hy : SL w b m d y) (nx : Nrm x) (ny : Nrm y) (hz : x = [] → a = none) (hy0 : y ≠ []) (hbm : n + 1 ≤ 35184372088832) :
    Calls Try.prog 57 #[.slice a n c, .slice b m d] w (DivPost w x y) := by
  by_cases hlt : val x < val y
  · exact divide_lt a b n m c d x y w hx hy nx ny hz hlt
  · match y, hy, ny, hy0, hlt with
    | [], _, _, h, _ => exact absurd rfl h
    | [dv], hy, ny, _, hlt =>
      obtain rfl : m = 1 := by have := hy.len; simpa using this.symm
      have hdv : 0 < dv := by
        rcases ny with h | h
        · cases h
        · simp at h; omega
      exact divide_one a b n c d dv x w hx hy nx hdv (by simp [val] at hlt; omega)
    | p :: q :: r, hy, ny, _, hlt =>
      obtain rfl : m = r.length + 2 := by have := hy.len; simpa using this.symm
      exact divide_long a b r.length n c d x _ w hx hy nx ny (by omega) hbm

theorem divmod_nz (s t : Bool) (a b : Option Addr) (n c m d : Nat) (x y : List Nat) (w : World) (hx : SL w a n c x) (hy : SL w b m d y) (h0 : tr y ≠ []) (h1 : n + 5 ≤ 35184372088832) (h1' : m + 5 ≤ 35184372088832) :
    Calls Try.prog 33 #[.agg #[.bool s, .slice a n c], .agg #[.bool t, .slice b m d]] w (DivModPost w (iv s x) (iv t y) (n + m + 5)) := by
  refine divmod_raw s t a b n c m d x y w hx hy h0 h1 h1' ?_
  intro w a b hx' hy' hz
  exact divide_raw a b _ _ _ _ (tr x) (tr y) w hx' hy' (nrm_tr x) (nrm_tr y) hz h0 (by have := tr_le x; have := hx.len; omega)

/-- what DivMod answers where it is divided by 0 -/
def DivZero (w : World) (e : Ending) (w' : World) : Prop :=
  e = .returned (.tuple #[.agg #[.bool false, .slice none 0 0], .agg #[.bool false, .slice none 0 0], .int .i64 10]) ∧ w.grownBy w' none

set_option maxHeartbeats 3200000 in
theorem divmod_zero (s t : Bool) (a b : Option Addr) (n c m d : Nat) (x y : List Nat) (w : World) (hx : SL w a n c x) (hy : SL w b m d y) (h0 : tr y = []) :
    Calls Try.prog 33 #[.agg #[.bool s, .slice a n c], .agg #[.bool t, .slice b m d]] w (DivZero w) := by
  have hl0 : (((tr y).length : Int) == 0) = true := by rw [h0]; rfl
  have hne1 : ¬ (w.heap.size + 1 + 1 = w.heap.size) := by omega
  have hne2 : ¬ (w.heap.size + 1 + 1 = w.heap.size + 1) := by omega
  have hne3 : ¬ (w.heap.size + 1 + 1 + 1 = w.heap.size) := by omega
  have hne4 : ¬ (w.heap.size + 1 + 1 + 1 = w.heap.size + 1) := by omega
  have hne6 : ¬ (w.heap.size + 1 + 1 = w.heap.size + 1 + 1 + 1) := by omega
  have hne5 : ¬ (w.heap.size + 1 + 1 + 1 = w.heap.size + 1 + 1) := by omega
  go_enter Try.func33, Try.ntmps33
  go_wp2
  go_region_held3 (fun w' => w'.cell? ⟨w.heap.size, 1, none⟩ = some (.slice a n c) ∧ w'.cell? ⟨w.heap.size + 1, 1, none⟩ = some (.slice b m d)) (go_keep) (first
    | (go_at_call_of 44 (Value.slice a n c); refine (trim_raw a n c x _ (by exact hx.grown (by repeat (first | exact gb_refl _ _ | apply gb_drew | apply gb_alloc | (refine gb_then ?_ (by assumption) (by simp)))))).mono ?_; rintro e w1 ⟨a1, rfl, rfl, ha1⟩)
    | (go_at_call_of 44 (Value.slice b m d); refine (trim_raw b m d y _ (by exact hy.grown (by repeat (first | exact gb_refl _ _ | apply gb_drew | apply gb_alloc | (refine gb_then ?_ (by assumption) (by simp)))))).mono ?_; rintro e w2 ⟨b1, rfl, rfl, hb1⟩))
  all_goals go_wp2
  all_goals
    refine bodyPost_ret (v := .tuple #[.agg #[.bool false, .slice none 0 0], .agg #[.bool false, .slice none 0 0], .int .i64 10]) (by simp [results, Try.results33, go_sem]) rfl ⟨rfl, ?_⟩
    repeat (first | exact gb_refl _ _ | apply gb_drew | apply gb_alloc | (refine gb_set ?_ _ _ (.inr (by first | exact Nat.le_refl _ | (simp; omega) | simp))))
end Go.Proofs.Ytonfnkchpicoiaa
