/-
  Add of the program.
-/
import Derived.Test.YtonfnkchpicoiaaCmp2
namespace Go.Proofs.Ytonfnkchpicoiaa
set_option linter.unusedSimpArgs false
set_option linter.unusedVariables false
open Go.RowKit
attribute [local go_sem ↓] Go.wp_at_zero Go.wp_at_succ

theorem tr_le (l : List Nat) : (tr l).length ≤ l.length := by rw [tr_length]; exact tl_le _ _

theorem add_same {s : Bool} {x y N : List Nat} (h : val N = val (tr x) + val (tr y)) : iv s N = iv s x + iv s y := by
  rw [val_tr, val_tr] at h
  cases s <;> simp only [iv, if_true, if_false, Bool.false_eq_true] <;> omega
theorem add_diff {s : Bool} {x y N : List Nat} (h : val N = val (tr x) - val (tr y)) (hle : val y ≤ val x) : iv s N = iv s x + iv (!s) y := by
  rw [val_tr, val_tr] at h
  cases s <;> simp only [iv, if_true, if_false, Bool.false_eq_true, Bool.not_true, Bool.not_false] <;> omega

set_option maxHeartbeats 3200000 in
theorem add_s (s : Bool) (a b : Option Addr) (n c m d : Nat) (x y : List Nat) (w : World) (hx : SL w a n c x) (hy : SL w b m d y) (h1 : n + 1 ≤ 35184372088832) (h2 : m + 1 ≤ 35184372088832) :
    Calls Try.prog 23 #[.agg #[.bool s, .slice a n c], .agg #[.bool s, .slice b m d]] w (IntPost w (iv s x + iv s y) (n + m + 1)) := by
  have hxl := hx.len
  have hyl := hy.len
  have htx := tr_le x
  have hne1 : ¬ (w.heap.size + 1 + 1 = w.heap.size) := by omega
  have hne2 : ¬ (w.heap.size + 1 + 1 = w.heap.size + 1) := by omega
  have hty := tr_le y
  go_enter Try.func23, Try.ntmps23
  go_wp2
  go_region_held3 (fun w' => w'.cell? ⟨w.heap.size, 0, none⟩ = some (.bool s) ∧ w'.cell? ⟨w.heap.size, 1, none⟩ = some (.slice a n c) ∧ w'.cell? ⟨w.heap.size + 1, 0, none⟩ = some (.bool s) ∧ w'.cell? ⟨w.heap.size + 1, 1, none⟩ = some (.slice b m d)) (go_keep) (first
    | (go_at_call_of 44 (Value.slice a n c); refine (trim_raw a n c x _ (by exact hx.grown (by repeat (first | exact gb_refl _ _ | apply gb_drew | apply gb_alloc | (refine gb_then ?_ (by assumption) (by simp)))))).mono ?_; rintro e w1 ⟨a1, rfl, rfl, ha1⟩)
    | (go_at_call_of 44 (Value.slice b m d); refine (trim_raw b m d y _ (by exact hy.grown (by repeat (first | exact gb_refl _ _ | apply gb_drew | apply gb_alloc | (refine gb_then ?_ (by assumption) (by simp)))))).mono ?_; rintro e w2 ⟨b1, rfl, rfl, hb1⟩))
  all_goals go_wp2
  all_goals go_region_held3 (fun w' => w'.cell? ⟨w.heap.size, 0, none⟩ = some (.bool s)) (go_keep) (first
    | (go_at_call 50; refine (sum_raw a1 b1 _ _ _ _ (tr x) (tr y) _ (by exact (hx.grown (by repeat (first | exact gb_refl _ _ | apply gb_drew | apply gb_alloc | (refine gb_then ?_ (by assumption) (by simp))))).trim ha1) (by exact (hy.grown (by repeat (first | exact gb_refl _ _ | apply gb_drew | apply gb_alloc | (refine gb_then ?_ (by assumption) (by simp))))).trim hb1) (by omega) (by omega)).mono ?_; rintro e w4 ⟨a4, n4, N, rfl, ho4, hna4, hv4, hn4, hg4⟩; obtain ⟨hc4, hf4, hz4⟩ := box_kept w.heap.size hg4 (by first | (simp; done) | (simp; omega) | omega); obtain ⟨hd4, he4, hy4⟩ := box_kept (w.heap.size + 1) hg4 (by first | (simp; done) | (simp; omega) | omega); obtain ⟨hp4, hq4, hr4⟩ := box_kept (w.heap.size + 1 + 1) hg4 (by first | (simp; done) | (simp; omega) | omega))
    | (go_at_call 43; refine (made_own s _ a4 _ _ N _ (by exact ho4)).mono ?_; rintro e w5 ⟨s5, a5, l5, rfl, ho5, hn5, hs5, hi5, hk5, ha5, hg5⟩; obtain ⟨hc5, hf5, hz5⟩ := box_kept w.heap.size hg5 (by first | (simp; done) | (simp; omega) | omega); obtain ⟨hd5, he5, hy5⟩ := box_kept (w.heap.size + 1) hg5 (by first | (simp; done) | (simp; omega) | omega); obtain ⟨hp5, hq5, hr5⟩ := box_kept (w.heap.size + 1 + 1) hg5 (by first | (simp; done) | (simp; omega) | omega)))
  all_goals go_wp2
  all_goals
    refine bodyPost_ret (v := .agg #[.bool s5, .slice a5 l5.length l5.length]) (by simp [results, Try.results23, go_sem, hp5, hp4, hr5, hq5, hq4]) rfl ?_
    have hzz := hg4.size
    refine int_end (by repeat (first | exact gb_refl _ _ | apply gb_drew | apply gb_alloc | (refine gb_then ?_ (by assumption) (by simp)))) ho5 (g := w.heap.size + 1 + 1) (by first | (simp; done) | (simp; omega) | omega) (by omega) (by first | (simp; done) | (simp; omega) | omega) hn5 hs5 (hi5.trans (add_same hv4)) (Nat.le_trans hk5 (by omega)) ha5 _ _

set_option maxHeartbeats 3200000 in
theorem add_ge (s : Bool) (a b : Option Addr) (n c m d : Nat) (x y : List Nat) (w : World) (hx : SL w a n c x) (hy : SL w b m d y) (hle : val y ≤ val x) :
    Calls Try.prog 23 #[.agg #[.bool s, .slice a n c], .agg #[.bool (!s), .slice b m d]] w (IntPost w (iv s x + iv (!s) y) (n + m + 1)) := by
  have hxl := hx.len
  have hyl := hy.len
  have htx := tr_le x
  have hne1 : ¬ (w.heap.size + 1 + 1 = w.heap.size) := by omega
  have hne2 : ¬ (w.heap.size + 1 + 1 = w.heap.size + 1) := by omega
  have hty := tr_le y
  have hsg : ¬ sgn ((val (tr x) : Int) - val (tr y)) < 0 := by
    rw [val_tr, val_tr]; unfold sgn; rw [if_neg (by omega)]; split <;> omega
  have hll : (tr y).length ≤ (tr x).length := length_le_of_val (nrm_tr y) (lims_tr hx.lim) (by rw [val_tr, val_tr]; exact hle)
  have hb : (s == !s) = false := by cases s <;> rfl
  go_enter Try.func23, Try.ntmps23
  go_wp2
  go_region_held3 (fun w' => w'.cell? ⟨w.heap.size, 0, none⟩ = some (.bool s) ∧ w'.cell? ⟨w.heap.size, 1, none⟩ = some (.slice a n c) ∧ w'.cell? ⟨w.heap.size + 1, 0, none⟩ = some (.bool (!s)) ∧ w'.cell? ⟨w.heap.size + 1, 1, none⟩ = some (.slice b m d)) (go_keep) (first
    | (go_at_call_of 44 (Value.slice a n c); refine (trim_raw a n c x _ (by exact hx.grown (by repeat (first | exact gb_refl _ _ | apply gb_drew | apply gb_alloc | (refine gb_then ?_ (by assumption) (by simp)))))).mono ?_; rintro e w1 ⟨a1, rfl, rfl, ha1⟩)
    | (go_at_call_of 44 (Value.slice b m d); refine (trim_raw b m d y _ (by exact hy.grown (by repeat (first | exact gb_refl _ _ | apply gb_drew | apply gb_alloc | (refine gb_then ?_ (by assumption) (by simp)))))).mono ?_; rintro e w2 ⟨b1, rfl, rfl, hb1⟩))
  all_goals go_wp2_with (go_at_call 49; refine (compare_raw a1 b1 _ _ _ _ (tr x) (tr y) _ (by exact (hx.grown (by repeat (first | exact gb_refl _ _ | apply gb_drew | apply gb_alloc | (refine gb_then ?_ (by assumption) (by simp))))).trim ha1) (by exact (hy.grown (by repeat (first | exact gb_refl _ _ | apply gb_drew | apply gb_alloc | (refine gb_then ?_ (by assumption) (by simp))))).trim hb1) (nrm_tr x) (nrm_tr y)).mono ?_; rintro e w3 ⟨rfl, hg3⟩; obtain ⟨hc3, hf3, hz3⟩ := box_kept w.heap.size hg3 (by first | (simp; done) | (simp; omega) | omega); obtain ⟨hd3, he3, hy3⟩ := box_kept (w.heap.size + 1) hg3 (by first | (simp; done) | (simp; omega) | omega); obtain ⟨hp3, hq3, hr3⟩ := box_kept (w.heap.size + 1 + 1) hg3 (by first | (simp; done) | (simp; omega) | omega))
  all_goals go_region_held3 (fun w' => w'.cell? ⟨w.heap.size, 0, none⟩ = some (.bool s)) (go_keep) (first
    | (go_at_call 51; refine (difference_raw a1 b1 _ _ _ _ (tr x) (tr y) _ (by exact (hx.grown (by repeat (first | exact gb_refl _ _ | apply gb_drew | apply gb_alloc | (refine gb_then ?_ (by assumption) (by simp))))).trim ha1) (by exact (hy.grown (by repeat (first | exact gb_refl _ _ | apply gb_drew | apply gb_alloc | (refine gb_then ?_ (by assumption) (by simp))))).trim hb1) hll (by rw [val_tr, val_tr]; exact hle)).mono ?_; rintro e w4 ⟨a4, n4, N, rfl, ho4, hv4, rfl, hg4⟩; obtain ⟨hc4, hf4, hz4⟩ := box_kept w.heap.size hg4 (by first | (simp; done) | (simp; omega) | omega); obtain ⟨hd4, he4, hy4⟩ := box_kept (w.heap.size + 1) hg4 (by first | (simp; done) | (simp; omega) | omega); obtain ⟨hp4, hq4, hr4⟩ := box_kept (w.heap.size + 1 + 1) hg4 (by first | (simp; done) | (simp; omega) | omega))
    | (go_at_call 43; refine (made_own s _ a4 _ _ N _ (by exact ho4)).mono ?_; rintro e w5 ⟨s5, a5, l5, rfl, ho5, hn5, hs5, hi5, hk5, ha5, hg5⟩; obtain ⟨hc5, hf5, hz5⟩ := box_kept w.heap.size hg5 (by first | (simp; done) | (simp; omega) | omega); obtain ⟨hd5, he5, hy5⟩ := box_kept (w.heap.size + 1) hg5 (by first | (simp; done) | (simp; omega) | omega); obtain ⟨hp5, hq5, hr5⟩ := box_kept (w.heap.size + 1 + 1) hg5 (by first | (simp; done) | (simp; omega) | omega)))
  all_goals go_wp2
  all_goals
    refine bodyPost_ret (v := .agg #[.bool s5, .slice a5 l5.length l5.length]) (by simp [results, Try.results23, go_sem, hp5, hp4, hr5, hq5, hq4, hp3, hq3]) rfl ?_
    have hzz := hg4.size
    refine int_end (by repeat (first | exact gb_refl _ _ | apply gb_drew | apply gb_alloc | (refine gb_then ?_ (by assumption) (by simp)))) ho5 (g := w.heap.size + 1 + 1) (by first | (simp; done) | (simp; omega) | omega) (by omega) (by first | (simp; done) | (simp; omega) | omega) hn5 hs5 (hi5.trans (add_diff hv4 hle)) (Nat.le_trans hk5 (by omega)) ha5 _ _

set_option maxHeartbeats 3200000 in
theorem add_lt (s : Bool) (a b : Option Addr) (n c m d : Nat) (x y : List Nat) (w : World) (hx : SL w a n c x) (hy : SL w b m d y) (hlt : val x < val y) :
    Calls Try.prog 23 #[.agg #[.bool (!s), .slice a n c], .agg #[.bool s, .slice b m d]] w (IntPost w (iv (!s) x + iv s y) (n + m + 1)) := by
  have hxl := hx.len
  have hyl := hy.len
  have htx := tr_le x
  have hne1 : ¬ (w.heap.size + 1 + 1 = w.heap.size) := by omega
  have hne2 : ¬ (w.heap.size + 1 + 1 = w.heap.size + 1) := by omega
  have hty := tr_le y
  have hsg : sgn ((val (tr x) : Int) - val (tr y)) < 0 := by
    rw [val_tr, val_tr]; unfold sgn; rw [if_pos (by omega)]; omega
  have hll : (tr x).length ≤ (tr y).length := length_le_of_val (nrm_tr x) (lims_tr hy.lim) (by rw [val_tr, val_tr]; omega)
  have hb : ((!s) == s) = false := by cases s <;> rfl
  go_enter Try.func23, Try.ntmps23
  go_wp2
  go_region_held3 (fun w' => w'.cell? ⟨w.heap.size, 0, none⟩ = some (.bool (!s)) ∧ w'.cell? ⟨w.heap.size, 1, none⟩ = some (.slice a n c) ∧ w'.cell? ⟨w.heap.size + 1, 0, none⟩ = some (.bool s) ∧ w'.cell? ⟨w.heap.size + 1, 1, none⟩ = some (.slice b m d)) (go_keep) (first
    | (go_at_call_of 44 (Value.slice a n c); refine (trim_raw a n c x _ (by exact hx.grown (by repeat (first | exact gb_refl _ _ | apply gb_drew | apply gb_alloc | (refine gb_then ?_ (by assumption) (by simp)))))).mono ?_; rintro e w1 ⟨a1, rfl, rfl, ha1⟩)
    | (go_at_call_of 44 (Value.slice b m d); refine (trim_raw b m d y _ (by exact hy.grown (by repeat (first | exact gb_refl _ _ | apply gb_drew | apply gb_alloc | (refine gb_then ?_ (by assumption) (by simp)))))).mono ?_; rintro e w2 ⟨b1, rfl, rfl, hb1⟩))
  all_goals go_wp2_with (go_at_call 49; refine (compare_raw a1 b1 _ _ _ _ (tr x) (tr y) _ (by exact (hx.grown (by repeat (first | exact gb_refl _ _ | apply gb_drew | apply gb_alloc | (refine gb_then ?_ (by assumption) (by simp))))).trim ha1) (by exact (hy.grown (by repeat (first | exact gb_refl _ _ | apply gb_drew | apply gb_alloc | (refine gb_then ?_ (by assumption) (by simp))))).trim hb1) (nrm_tr x) (nrm_tr y)).mono ?_; rintro e w3 ⟨rfl, hg3⟩; obtain ⟨hc3, hf3, hz3⟩ := box_kept w.heap.size hg3 (by first | (simp; done) | (simp; omega) | omega); obtain ⟨hd3, he3, hy3⟩ := box_kept (w.heap.size + 1) hg3 (by first | (simp; done) | (simp; omega) | omega); obtain ⟨hp3, hq3, hr3⟩ := box_kept (w.heap.size + 1 + 1) hg3 (by first | (simp; done) | (simp; omega) | omega))
  all_goals go_region_held3 (fun w' => w'.cell? ⟨w.heap.size + 1, 0, none⟩ = some (.bool s)) (go_keep) (first
    | (go_at_call 51; refine (difference_raw b1 a1 _ _ _ _ (tr y) (tr x) _ (by exact (hy.grown (by repeat (first | exact gb_refl _ _ | apply gb_drew | apply gb_alloc | (refine gb_then ?_ (by assumption) (by simp))))).trim hb1) (by exact (hx.grown (by repeat (first | exact gb_refl _ _ | apply gb_drew | apply gb_alloc | (refine gb_then ?_ (by assumption) (by simp))))).trim ha1) hll (by rw [val_tr, val_tr]; omega)).mono ?_; rintro e w4 ⟨a4, n4, N, rfl, ho4, hv4, rfl, hg4⟩; obtain ⟨hc4, hf4, hz4⟩ := box_kept w.heap.size hg4 (by first | (simp; done) | (simp; omega) | omega); obtain ⟨hd4, he4, hy4⟩ := box_kept (w.heap.size + 1) hg4 (by first | (simp; done) | (simp; omega) | omega); obtain ⟨hp4, hq4, hr4⟩ := box_kept (w.heap.size + 1 + 1) hg4 (by first | (simp; done) | (simp; omega) | omega))
    | (go_at_call 43; refine (made_own s _ a4 _ _ N _ (by exact ho4)).mono ?_; rintro e w5 ⟨s5, a5, l5, rfl, ho5, hn5, hs5, hi5, hk5, ha5, hg5⟩; obtain ⟨hc5, hf5, hz5⟩ := box_kept w.heap.size hg5 (by first | (simp; done) | (simp; omega) | omega); obtain ⟨hd5, he5, hy5⟩ := box_kept (w.heap.size + 1) hg5 (by first | (simp; done) | (simp; omega) | omega); obtain ⟨hp5, hq5, hr5⟩ := box_kept (w.heap.size + 1 + 1) hg5 (by first | (simp; done) | (simp; omega) | omega)))
  all_goals go_wp2
  all_goals
    refine bodyPost_ret (v := .agg #[.bool s5, .slice a5 l5.length l5.length]) (by simp [results, Try.results23, go_sem, hp5, hp4, hr5, hq5, hq4, hp3, hq3]) rfl ?_
    have hzz := hg4.size
    refine int_end (by repeat (first | exact gb_refl _ _ | apply gb_drew | apply gb_alloc | (refine gb_then ?_ (by assumption) (by simp)))) ho5 (g := w.heap.size + 1 + 1) (by first | (simp; done) | (simp; omega) | omega) (by omega) (by first | (simp; done) | (simp; omega) | omega) hn5 hs5 (hi5.trans (by rw [add_diff hv4 (by omega), Int.add_comm])) (Nat.le_trans hk5 (by omega)) ha5 _ _

theorem add_raw (s t : Bool) (a b : Option Addr) (n c m d : Nat) (x y : List Nat) (w : World) (hx : SL w a n c x) (hy : SL w b m d y) (h1 : n + 1 ≤ 35184372088832) (h2 : m + 1 ≤ 35184372088832) :
    Calls Try.prog 23 #[.agg #[.bool s, .slice a n c], .agg #[.bool t, .slice b m d]] w (IntPost w (iv s x + iv t y) (n + m + 1)) := by
  by_cases hst : s = t
  · subst hst
    exact add_s s a b n c m d x y w hx hy h1 h2
  · by_cases hle : val y ≤ val x
    · obtain rfl : t = !s := by cases s <;> cases t <;> simp_all
      exact add_ge s a b n c m d x y w hx hy hle
    · obtain rfl : s = !t := by cases s <;> cases t <;> simp_all
      exact add_lt t a b n c m d x y w hx hy (by omega)
end Go.Proofs.Ytonfnkchpicoiaa
