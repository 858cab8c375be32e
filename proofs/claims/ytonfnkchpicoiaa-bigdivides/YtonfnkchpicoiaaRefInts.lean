/-
  The reference: Neg, Abs, Add, Sub, Mul.
-/
import Derived.Test.YtonfnkchpicoiaaRefMul
import Derived.Test.YtonfnkchpicoiaaRefOf
namespace Go.Proofs.Ytonfnkchpicoiaa
set_option linter.unusedSimpArgs false
set_option linter.unusedVariables false
open Go.RowKit
attribute [local go_sem ↓] Go.wp_at_zero Go.wp_at_succ

theorem take_val {x y : List Nat} {n : Nat} (hx : Lims x) (hn : x.length = n) (h : val y ≤ val x) : val (y.take n) = val y := by
  by_cases hk : n ≤ y.length
  · have h1 := val_split y n hk
    have h2 := val_lt x hx
    rw [hn] at h2
    have h3 : val (y.drop n) = 0 := by
      by_cases h0 : val (y.drop n) = 0
      · exact h0
      · have : B32 ^ n * 1 ≤ B32 ^ n * val (y.drop n) := Nat.mul_le_mul_left _ (by omega)
        omega
    rw [h3, Nat.mul_zero] at h1
    omega
  · rw [List.take_of_length_le (by omega)]

set_option maxHeartbeats 1600000 in
theorem rneg_raw (s : Bool) (a : Option Addr) (n c : Nat) (x : List Nat) (w : World) (hx : SL w a n c x) :
    Calls Try.prog 28 #[.agg #[.bool s, .slice a n c]] w (RIntPost w (-(iv s x)) n) := by
  go_enter Try.func28, Try.ntmps28
  go_wp2_with (go_at_call 17; go_must (refine (rnorm_raw (!s) a n c x _ (by exact hx.grown (by repeat (first | exact gb_refl _ _ | apply gb_drew | apply gb_alloc | (refine gb_then ?_ (by assumption) (by simp)))))).mono ?_; rintro e w5 ⟨s5, a5, l5, rfl, ho5, hn5, hs5, hi5, hk5, hg5⟩; have HI5 := hid hi5; clear hi5; obtain ⟨hp5, hq5, hr5⟩ := box_kept (w.heap.size + 1) hg5 (by first | (simp; done) | (simp; omega) | omega)))
  refine bodyPost_ret (v := .agg #[.bool s5, .slice a5 l5.length l5.length]) (by simp [results, Try.results28, go_sem, hp5, hr5, hq5]) rfl ?_
  exact rint_end (by repeat (first | exact gb_refl _ _ | apply gb_drew | apply gb_alloc | (refine gb_then ?_ (by assumption) (by simp)))) ho5 (g := w.heap.size + 1) (by first | (simp; done) | (simp; omega) | omega) (by omega) (by first | (simp; done) | (simp; omega) | omega) hn5 hs5 (HI5.out.trans (iv_not s x)) hk5 _ _

set_option maxHeartbeats 1600000 in
theorem rabs_raw (s : Bool) (a : Option Addr) (n c : Nat) (x : List Nat) (w : World) (hx : SL w a n c x) :
    Calls Try.prog 29 #[.agg #[.bool s, .slice a n c]] w (RIntPost w ((iv s x).natAbs : Int) n) := by
  go_enter Try.func29, Try.ntmps29
  go_wp2_with (go_at_call 17; go_must (refine (rnorm_raw false a n c x _ (by exact hx.grown (by repeat (first | exact gb_refl _ _ | apply gb_drew | apply gb_alloc | (refine gb_then ?_ (by assumption) (by simp)))))).mono ?_; rintro e w5 ⟨s5, a5, l5, rfl, ho5, hn5, hs5, hi5, hk5, hg5⟩; have HI5 := hid hi5; clear hi5; obtain ⟨hp5, hq5, hr5⟩ := box_kept (w.heap.size + 1) hg5 (by first | (simp; done) | (simp; omega) | omega)))
  refine bodyPost_ret (v := .agg #[.bool s5, .slice a5 l5.length l5.length]) (by simp [results, Try.results29, go_sem, hp5, hr5, hq5]) rfl ?_
  exact rint_end (by repeat (first | exact gb_refl _ _ | apply gb_drew | apply gb_alloc | (refine gb_then ?_ (by assumption) (by simp)))) ho5 (g := w.heap.size + 1) (by first | (simp; done) | (simp; omega) | omega) (by omega) (by first | (simp; done) | (simp; omega) | omega) hn5 hs5 (HI5.out.trans (iv_abs s x)) hk5 _ _

theorem radd_same {s : Bool} {x y N : List Nat} (h : val N = val x + val y) : iv s N = iv s x + iv s y := by
  cases s <;> simp only [iv, if_true, if_false, Bool.false_eq_true] <;> omega
theorem radd_diff {s : Bool} {x y N : List Nat} (h : val N = val x - val y) (hle : val y ≤ val x) : iv s N = iv s x + iv (!s) y := by
  cases s <;> simp only [iv, if_true, if_false, Bool.false_eq_true, Bool.not_true, Bool.not_false] <;> omega

set_option maxHeartbeats 3200000 in
theorem radd_s (s : Bool) (a b : Option Addr) (n c m d : Nat) (x y : List Nat) (w : World) (hx : SL w a n c x) (hy : SL w b m d y) (h1 : n + 1 ≤ 35184372088832) (h2 : m + 1 ≤ 35184372088832) :
    Calls Try.prog 30 #[.agg #[.bool s, .slice a n c], .agg #[.bool s, .slice b m d]] w (RIntPost w (iv s x + iv s y) (n + m + 1)) := by
  have hne1 : ¬ (w.heap.size + 1 + 1 = w.heap.size) := by omega
  have hne2 : ¬ (w.heap.size + 1 + 1 = w.heap.size + 1) := by omega
  go_enter Try.func30, Try.ntmps30
  go_wp2
  go_region_held3 (fun w' => w'.cell? ⟨w.heap.size, 0, none⟩ = some (.bool s) ∧ w'.cell? ⟨w.heap.size, 1, none⟩ = some (.slice a n c) ∧ w'.cell? ⟨w.heap.size + 1, 1, none⟩ = some (.slice b m d)) (go_keep) (first
    | (go_at_call 54; refine (natAdd_wide a b n c m d x y _ (by exact hx.grown (by repeat (first | exact gb_refl _ _ | apply gb_drew | apply gb_alloc | (refine gb_then ?_ (by assumption) (by simp))))) (by exact hy.grown (by repeat (first | exact gb_refl _ _ | apply gb_drew | apply gb_alloc | (refine gb_then ?_ (by assumption) (by simp))))) (max n m) (by omega) (by omega) (by omega)).mono ?_; rintro e w4 ⟨g4, l4, rfl, hr4', hn4, hlm4, hv4, hB4, hk4, hg4⟩; have HV4 := hid hv4; clear hv4; obtain ⟨hc4, hf4, hz4⟩ := box_kept w.heap.size hg4 (by first | (simp; done) | (simp; omega) | omega); obtain ⟨hd4, he4, hy4⟩ := box_kept (w.heap.size + 1) hg4 (by first | (simp; done) | (simp; omega) | omega); obtain ⟨hp4, hq4, hr4⟩ := box_kept (w.heap.size + 1 + 1) hg4 (by first | (simp; done) | (simp; omega) | omega))
    | (go_at_call 17; refine (rnorm_raw s _ l4.length l4.length l4 _ (by exact (RNat.ow hr4' hlm4 hB4 (by omega)).sl.grown (by repeat (first | exact gb_refl _ _ | apply gb_drew | apply gb_alloc | (refine gb_then ?_ (by assumption) (by simp)))))).mono ?_; rintro e w5 ⟨s5, a5, l5, rfl, ho5, hn5, hs5, hi5, hk5, hg5⟩; have HI5 := hid hi5; clear hi5; obtain ⟨hc5, hf5, hz5⟩ := box_kept w.heap.size hg5 (by first | (simp; done) | (simp; omega) | omega); obtain ⟨hd5, he5, hy5⟩ := box_kept (w.heap.size + 1) hg5 (by first | (simp; done) | (simp; omega) | omega); obtain ⟨hp5, hq5, hr5⟩ := box_kept (w.heap.size + 1 + 1) hg5 (by first | (simp; done) | (simp; omega) | omega)))
  all_goals go_wp2
  all_goals
    refine bodyPost_ret (v := .agg #[.bool s5, .slice a5 l5.length l5.length]) (by simp [results, Try.results30, go_sem, hp5, hp4, hr5, hq5, hq4]) rfl ?_
    have hzz := hg4.size
    refine rint_end (by repeat (first | exact gb_refl _ _ | apply gb_drew | apply gb_alloc | (refine gb_then ?_ (by assumption) (by simp)))) ho5 (g := w.heap.size + 1 + 1) (by first | (simp; done) | (simp; omega) | omega) (by omega) (by first | (simp; done) | (simp; omega) | omega) hn5 hs5 (HI5.out.trans (radd_same HV4.out)) (Nat.le_trans hk5 (by omega)) _ _

set_option maxHeartbeats 3200000 in
theorem radd_ge (s : Bool) (a b : Option Addr) (n c m d : Nat) (x y : List Nat) (w : World) (hx : SL w a n c x) (hy : SL w b m d y) (h1 : n + 1 ≤ 35184372088832) (h2 : m + 1 ≤ 35184372088832) (hle : val y ≤ val x) :
    Calls Try.prog 30 #[.agg #[.bool s, .slice a n c], .agg #[.bool (!s), .slice b m d]] w (RIntPost w (iv s x + iv (!s) y) (n + m + 1)) := by
  have hne1 : ¬ (w.heap.size + 1 + 1 = w.heap.size) := by omega
  have hne2 : ¬ (w.heap.size + 1 + 1 = w.heap.size + 1) := by omega
  have hsg : (sgn ((val x : Int) - val y) ≥ 0) := by
    unfold sgn; rw [if_neg (by omega)]; split <;> omega
  have hsg' : ¬ sgn ((val x : Int) - val y) < 0 := by omega
  have hb : (s == !s) = false := by cases s <;> rfl
  have HT := hid (take_val hx.lim hx.len hle)
  go_enter Try.func30, Try.ntmps30
  go_wp2_with (go_at_call 53; refine (natCmp_raw a b n m c d x y _ (by exact hx.grown (by repeat (first | exact gb_refl _ _ | apply gb_drew | apply gb_alloc | (refine gb_then ?_ (by assumption) (by simp))))) (by exact hy.grown (by repeat (first | exact gb_refl _ _ | apply gb_drew | apply gb_alloc | (refine gb_then ?_ (by assumption) (by simp))))) (by omega) (by omega)).mono ?_; rintro e w3 ⟨rfl, rfl⟩)
  go_region_held3 (fun w' => w'.cell? ⟨w.heap.size, 0, none⟩ = some (.bool s) ∧ w'.cell? ⟨w.heap.size, 1, none⟩ = some (.slice a n c) ∧ w'.cell? ⟨w.heap.size + 1, 1, none⟩ = some (.slice b m d)) (go_keep) (first
    | (go_at_call 55; refine (natSub_raw a b n c m d x y _ (by exact hx.grown (by repeat (first | exact gb_refl _ _ | apply gb_drew | apply gb_alloc | (refine gb_then ?_ (by assumption) (by simp))))) (by exact hy.grown (by repeat (first | exact gb_refl _ _ | apply gb_drew | apply gb_alloc | (refine gb_then ?_ (by assumption) (by simp))))) (by omega) hle HT.out).mono ?_; rintro e w4 ⟨g4, l4, rfl, hr4', hn4, hlm4, hv4, hB4, hk4, hg4⟩; have HV4 := hid hv4; clear hv4; obtain ⟨hc4, hf4, hz4⟩ := box_kept w.heap.size hg4 (by first | (simp; done) | (simp; omega) | omega); obtain ⟨hd4, he4, hy4⟩ := box_kept (w.heap.size + 1) hg4 (by first | (simp; done) | (simp; omega) | omega); obtain ⟨hp4, hq4, hr4⟩ := box_kept (w.heap.size + 1 + 1) hg4 (by first | (simp; done) | (simp; omega) | omega))
    | (go_at_call 17; refine (rnorm_raw s _ l4.length l4.length l4 _ (by exact (RNat.ow hr4' hlm4 hB4 (by omega)).sl.grown (by repeat (first | exact gb_refl _ _ | apply gb_drew | apply gb_alloc | (refine gb_then ?_ (by assumption) (by simp)))))).mono ?_; rintro e w5 ⟨s5, a5, l5, rfl, ho5, hn5, hs5, hi5, hk5, hg5⟩; have HI5 := hid hi5; clear hi5; obtain ⟨hc5, hf5, hz5⟩ := box_kept w.heap.size hg5 (by first | (simp; done) | (simp; omega) | omega); obtain ⟨hd5, he5, hy5⟩ := box_kept (w.heap.size + 1) hg5 (by first | (simp; done) | (simp; omega) | omega); obtain ⟨hp5, hq5, hr5⟩ := box_kept (w.heap.size + 1 + 1) hg5 (by first | (simp; done) | (simp; omega) | omega)))
  all_goals go_wp2
  all_goals
    refine bodyPost_ret (v := .agg #[.bool s5, .slice a5 l5.length l5.length]) (by simp [results, Try.results30, go_sem, hp5, hp4, hr5, hq5, hq4]) rfl ?_
    have hzz := hg4.size
    refine rint_end (by repeat (first | exact gb_refl _ _ | apply gb_drew | apply gb_alloc | (refine gb_then ?_ (by assumption) (by simp)))) ho5 (g := w.heap.size + 1 + 1) (by first | (simp; done) | (simp; omega) | omega) (by omega) (by first | (simp; done) | (simp; omega) | omega) hn5 hs5 (HI5.out.trans (radd_diff HV4.out hle)) (Nat.le_trans hk5 (by omega)) _ _

set_option maxHeartbeats 3200000 in
theorem radd_lt (s : Bool) (a b : Option Addr) (n c m d : Nat) (x y : List Nat) (w : World) (hx : SL w a n c x) (hy : SL w b m d y) (h1 : n + 1 ≤ 35184372088832) (h2 : m + 1 ≤ 35184372088832) (hlt : val x < val y) :
    Calls Try.prog 30 #[.agg #[.bool (!s), .slice a n c], .agg #[.bool s, .slice b m d]] w (RIntPost w (iv (!s) x + iv s y) (n + m + 1)) := by
  have hne1 : ¬ (w.heap.size + 1 + 1 = w.heap.size) := by omega
  have hne2 : ¬ (w.heap.size + 1 + 1 = w.heap.size + 1) := by omega
  have hsg : sgn ((val x : Int) - val y) < 0 := by
    unfold sgn; rw [if_pos (by omega)]; omega
  have hsg' : ¬ (sgn ((val x : Int) - val y) ≥ 0) := by omega
  have hb : ((!s) == s) = false := by cases s <;> rfl
  have HT := hid (take_val hy.lim hy.len (Nat.le_of_lt hlt))
  go_enter Try.func30, Try.ntmps30
  go_wp2_with (go_at_call 53; refine (natCmp_raw a b n m c d x y _ (by exact hx.grown (by repeat (first | exact gb_refl _ _ | apply gb_drew | apply gb_alloc | (refine gb_then ?_ (by assumption) (by simp))))) (by exact hy.grown (by repeat (first | exact gb_refl _ _ | apply gb_drew | apply gb_alloc | (refine gb_then ?_ (by assumption) (by simp))))) (by omega) (by omega)).mono ?_; rintro e w3 ⟨rfl, rfl⟩)
  go_region_held3 (fun w' => w'.cell? ⟨w.heap.size + 1, 0, none⟩ = some (.bool s) ∧ w'.cell? ⟨w.heap.size, 1, none⟩ = some (.slice a n c) ∧ w'.cell? ⟨w.heap.size + 1, 1, none⟩ = some (.slice b m d)) (go_keep) (first
    | (go_at_call 55; refine (natSub_raw b a m d n c y x _ (by exact hy.grown (by repeat (first | exact gb_refl _ _ | apply gb_drew | apply gb_alloc | (refine gb_then ?_ (by assumption) (by simp))))) (by exact hx.grown (by repeat (first | exact gb_refl _ _ | apply gb_drew | apply gb_alloc | (refine gb_then ?_ (by assumption) (by simp))))) (by omega) (by omega) HT.out).mono ?_; rintro e w4 ⟨g4, l4, rfl, hr4', hn4, hlm4, hv4, hB4, hk4, hg4⟩; have HV4 := hid hv4; clear hv4; obtain ⟨hc4, hf4, hz4⟩ := box_kept w.heap.size hg4 (by first | (simp; done) | (simp; omega) | omega); obtain ⟨hd4, he4, hy4⟩ := box_kept (w.heap.size + 1) hg4 (by first | (simp; done) | (simp; omega) | omega); obtain ⟨hp4, hq4, hr4⟩ := box_kept (w.heap.size + 1 + 1) hg4 (by first | (simp; done) | (simp; omega) | omega))
    | (go_at_call 17; refine (rnorm_raw s _ l4.length l4.length l4 _ (by exact (RNat.ow hr4' hlm4 hB4 (by omega)).sl.grown (by repeat (first | exact gb_refl _ _ | apply gb_drew | apply gb_alloc | (refine gb_then ?_ (by assumption) (by simp)))))).mono ?_; rintro e w5 ⟨s5, a5, l5, rfl, ho5, hn5, hs5, hi5, hk5, hg5⟩; have HI5 := hid hi5; clear hi5; obtain ⟨hc5, hf5, hz5⟩ := box_kept w.heap.size hg5 (by first | (simp; done) | (simp; omega) | omega); obtain ⟨hd5, he5, hy5⟩ := box_kept (w.heap.size + 1) hg5 (by first | (simp; done) | (simp; omega) | omega); obtain ⟨hp5, hq5, hr5⟩ := box_kept (w.heap.size + 1 + 1) hg5 (by first | (simp; done) | (simp; omega) | omega)))
  all_goals go_wp2
  all_goals
    refine bodyPost_ret (v := .agg #[.bool s5, .slice a5 l5.length l5.length]) (by simp [results, Try.results30, go_sem, hp5, hp4, hr5, hq5, hq4]) rfl ?_
    have hzz := hg4.size
    refine rint_end (by repeat (first | exact gb_refl _ _ | apply gb_drew | apply gb_alloc | (refine gb_then ?_ (by assumption) (by simp)))) ho5 (g := w.heap.size + 1 + 1) (by first | (simp; done) | (simp; omega) | omega) (by omega) (by first | (simp; done) | (simp; omega) | omega) hn5 hs5 (HI5.out.trans (by rw [radd_diff HV4.out (by omega), Int.add_comm])) (Nat.le_trans hk5 (by omega)) _ _

theorem radd_raw (s t : Bool) (a b : Option Addr) (n c m d : Nat) (x y : List Nat) (w : World) (hx : SL w a n c x) (hy : SL w b m d y) (h1 : n + 1 ≤ 35184372088832) (h2 : m + 1 ≤ 35184372088832) :
    Calls Try.prog 30 #[.agg #[.bool s, .slice a n c], .agg #[.bool t, .slice b m d]] w (RIntPost w (iv s x + iv t y) (n + m + 1)) := by
  by_cases hst : s = t
  · subst hst
    exact radd_s s a b n c m d x y w hx hy h1 h2
  · by_cases hle : val y ≤ val x
    · obtain rfl : t = !s := by cases s <;> cases t <;> simp_all
      exact radd_ge s a b n c m d x y w hx hy h1 h2 hle
    · obtain rfl : s = !t := by cases s <;> cases t <;> simp_all
      exact radd_lt t a b n c m d x y w hx hy h1 h2 (by omega)

set_option maxHeartbeats 3200000 in
theorem rsub_raw (s t : Bool) (a b : Option Addr) (n c m d : Nat) (x y : List Nat) (w : World) (hx : SL w a n c x) (hy : SL w b m d y) (h1 : n + 1 ≤ 35184372088832) (h2 : m + 1 ≤ 35184372088832) :
    Calls Try.prog 31 #[.agg #[.bool s, .slice a n c], .agg #[.bool t, .slice b m d]] w (RIntPost w (iv s x - iv t y) (n + m + 1)) := by
  have hne1 : ¬ (w.heap.size + 1 + 1 = w.heap.size) := by omega
  have hne2 : ¬ (w.heap.size + 1 + 1 = w.heap.size + 1) := by omega
  go_enter Try.func31, Try.ntmps31
  go_wp2
  go_region_held3 (fun w' => w'.cell? ⟨w.heap.size, 0, none⟩ = some (.bool s) ∧ w'.cell? ⟨w.heap.size, 1, none⟩ = some (.slice a n c) ∧ w'.cell? ⟨w.heap.size + 1, 0, none⟩ = some (.bool t) ∧ w'.cell? ⟨w.heap.size + 1, 1, none⟩ = some (.slice b m d)) (go_keep) (first
    | (go_at_call 28; refine (rneg_raw t b m d y _ (by exact hy.grown (by repeat (first | exact gb_refl _ _ | apply gb_drew | apply gb_alloc | (refine gb_then ?_ (by assumption) (by simp)))))).mono ?_; rintro e w4 ⟨s4, a4, l4, rfl, ho4, hn4, hs4, hi4, hk4, hg4⟩; have HI4 := hid hi4; clear hi4; obtain ⟨hc4, hf4, hz4⟩ := box_kept w.heap.size hg4 (by first | (simp; done) | (simp; omega) | omega); obtain ⟨hd4, he4, hy4⟩ := box_kept (w.heap.size + 1) hg4 (by first | (simp; done) | (simp; omega) | omega); obtain ⟨hp4, hq4, hr4⟩ := box_kept (w.heap.size + 1 + 1) hg4 (by first | (simp; done) | (simp; omega) | omega))
    | (go_at_call 30; refine (radd_raw s s4 a a4 n c l4.length l4.length x l4 _ (by exact hx.grown (by repeat (first | exact gb_refl _ _ | apply gb_drew | apply gb_alloc | (refine gb_then ?_ (by assumption) (by simp))))) (by exact ho4.sl.grown (by repeat (first | exact gb_refl _ _ | apply gb_drew | apply gb_alloc | (refine gb_then ?_ (by assumption) (by simp))))) (by omega) (by omega)).mono ?_; rintro e w5 ⟨s5, a5, l5, rfl, ho5, hn5, hs5, hi5, hk5, hg5⟩; have HI5 := hid hi5; clear hi5; obtain ⟨hc5, hf5, hz5⟩ := box_kept w.heap.size hg5 (by first | (simp; done) | (simp; omega) | omega); obtain ⟨hd5, he5, hy5⟩ := box_kept (w.heap.size + 1) hg5 (by first | (simp; done) | (simp; omega) | omega); obtain ⟨hp5, hq5, hr5⟩ := box_kept (w.heap.size + 1 + 1) hg5 (by first | (simp; done) | (simp; omega) | omega)))
  all_goals go_wp2
  all_goals
    refine bodyPost_ret (v := .agg #[.bool s5, .slice a5 l5.length l5.length]) (by simp [results, Try.results31, go_sem, hp5, hp4, hr5, hq5, hq4]) rfl ?_
    have hzz := hg4.size
    refine rint_end (by repeat (first | exact gb_refl _ _ | apply gb_drew | apply gb_alloc | (refine gb_then ?_ (by assumption) (by simp)))) ho5 (g := w.heap.size + 1 + 1) (by first | (simp; done) | (simp; omega) | omega) (by omega) (by first | (simp; done) | (simp; omega) | omega) hn5 hs5 (HI5.out.trans (by rw [HI4.out]; omega)) (Nat.le_trans hk5 (by omega)) _ _

theorem rmul_iv {s t : Bool} {x y N : List Nat} (h : val N = val x * val y) : iv (s != t) N = iv s x * iv t y := by
  cases s <;> cases t <;> simp [iv, h, Int.mul_neg, Int.neg_mul]

set_option maxHeartbeats 3200000 in
theorem rmul_wide (s t : Bool) (a b : Option Addr) (n c m d : Nat) (x y : List Nat) (w : World) (hx : SL w a n c x) (hy : SL w b m d y) (M : Nat) (h1 : n + 2 ≤ 35184372088832) (h2 : m + 2 ≤ 35184372088832) (h3 : M + 2 ≤ 35184372088832) (h4 : val x * val y < B32 ^ M) :
    Calls Try.prog 32 #[.agg #[.bool s, .slice a n c], .agg #[.bool t, .slice b m d]] w (RIntPost w (iv s x * iv t y) M) := by
  have H4 := hid h4
  clear h4
  have hne1 : ¬ (w.heap.size + 1 + 1 = w.heap.size) := by omega
  have hne2 : ¬ (w.heap.size + 1 + 1 = w.heap.size + 1) := by omega
  go_enter Try.func32, Try.ntmps32
  go_wp2
  go_region_held3 (fun w' => w'.cell? ⟨w.heap.size, 0, none⟩ = some (.bool s) ∧ w'.cell? ⟨w.heap.size, 1, none⟩ = some (.slice a n c) ∧ w'.cell? ⟨w.heap.size + 1, 0, none⟩ = some (.bool t) ∧ w'.cell? ⟨w.heap.size + 1, 1, none⟩ = some (.slice b m d)) (go_keep) (first
    | (go_at_call 56; refine (natMul_wide a b n c m d x y _ (by exact hx.grown (by repeat (first | exact gb_refl _ _ | apply gb_drew | apply gb_alloc | (refine gb_then ?_ (by assumption) (by simp))))) (by exact hy.grown (by repeat (first | exact gb_refl _ _ | apply gb_drew | apply gb_alloc | (refine gb_then ?_ (by assumption) (by simp))))) M h1 h2 h3 H4.out).mono ?_; rintro e w4 ⟨g4, l4, rfl, hr4', hn4, hlm4, hv4, hB4, hk4, hg4⟩; have HV4 := hid hv4; clear hv4; obtain ⟨hc4, hf4, hz4⟩ := box_kept w.heap.size hg4 (by first | (simp; done) | (simp; omega) | omega); obtain ⟨hd4, he4, hy4⟩ := box_kept (w.heap.size + 1) hg4 (by first | (simp; done) | (simp; omega) | omega); obtain ⟨hp4, hq4, hr4⟩ := box_kept (w.heap.size + 1 + 1) hg4 (by first | (simp; done) | (simp; omega) | omega))
    | (go_at_call 17; refine (rnorm_raw (s != t) _ l4.length l4.length l4 _ (by exact (RNat.ow hr4' hlm4 hB4 (by omega)).sl.grown (by repeat (first | exact gb_refl _ _ | apply gb_drew | apply gb_alloc | (refine gb_then ?_ (by assumption) (by simp)))))).mono ?_; rintro e w5 ⟨s5, a5, l5, rfl, ho5, hn5, hs5, hi5, hk5, hg5⟩; have HI5 := hid hi5; clear hi5; obtain ⟨hc5, hf5, hz5⟩ := box_kept w.heap.size hg5 (by first | (simp; done) | (simp; omega) | omega); obtain ⟨hd5, he5, hy5⟩ := box_kept (w.heap.size + 1) hg5 (by first | (simp; done) | (simp; omega) | omega); obtain ⟨hp5, hq5, hr5⟩ := box_kept (w.heap.size + 1 + 1) hg5 (by first | (simp; done) | (simp; omega) | omega)))
  all_goals go_wp2
  all_goals
    refine bodyPost_ret (v := .agg #[.bool s5, .slice a5 l5.length l5.length]) (by simp [results, Try.results32, go_sem, hp5, hp4, hr5, hq5, hq4]) rfl ?_
    have hzz := hg4.size
    refine rint_end (by repeat (first | exact gb_refl _ _ | apply gb_drew | apply gb_alloc | (refine gb_then ?_ (by assumption) (by simp)))) ho5 (g := w.heap.size + 1 + 1) (by first | (simp; done) | (simp; omega) | omega) (by omega) (by first | (simp; done) | (simp; omega) | omega) hn5 hs5 (HI5.out.trans (rmul_iv HV4.out)) (Nat.le_trans hk5 (by omega)) _ _
theorem rmul_raw (s t : Bool) (a b : Option Addr) (n c m d : Nat) (x y : List Nat) (w : World) (hx : SL w a n c x) (hy : SL w b m d y) (h1 : n ≤ 100000000) (h2 : m ≤ 100000000) :
    Calls Try.prog 32 #[.agg #[.bool s, .slice a n c], .agg #[.bool t, .slice b m d]] w (RIntPost w (iv s x * iv t y) (n + m)) := by
  refine rmul_wide s t a b n c m d x y w hx hy (n + m) (by omega) (by omega) (by omega) (mul_lt_pow ?_ ?_)
  · have := val_lt x hx.lim; rwa [hx.len] at this
  · have := val_lt y hy.lim; rwa [hy.len] at this
end Go.Proofs.Ytonfnkchpicoiaa
