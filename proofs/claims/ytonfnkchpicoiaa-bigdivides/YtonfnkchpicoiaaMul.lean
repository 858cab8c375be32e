/-
  Sub, Mul of the program.
-/
import Derived.Test.YtonfnkchpicoiaaAdd
namespace Go.Proofs.Ytonfnkchpicoiaa
set_option linter.unusedSimpArgs false
set_option linter.unusedVariables false
open Go.RowKit
attribute [local go_sem ↓] Go.wp_at_zero Go.wp_at_succ

theorem mul_iv {s t : Bool} {x y N : List Nat} (h : val N = val (tr x) * val (tr y)) : iv (s != t) N = iv s x * iv t y := by
  rw [val_tr, val_tr] at h
  cases s <;> cases t <;> simp [iv, h, Int.mul_neg, Int.neg_mul]

set_option maxHeartbeats 3200000 in
theorem sub_raw (s t : Bool) (a b : Option Addr) (n c m d : Nat) (x y : List Nat) (w : World) (hx : SL w a n c x) (hy : SL w b m d y) (h1 : n + 1 ≤ 35184372088832) (h2 : m + 1 ≤ 35184372088832) :
    Calls Try.prog 24 #[.agg #[.bool s, .slice a n c], .agg #[.bool t, .slice b m d]] w (IntPost w (iv s x - iv t y) (n + m + 1)) := by
  have hne1 : ¬ (w.heap.size + 1 + 1 = w.heap.size) := by omega
  have hne2 : ¬ (w.heap.size + 1 + 1 = w.heap.size + 1) := by omega
  go_enter Try.func24, Try.ntmps24
  go_wp2_with (go_at_call 23; refine (add_raw s (!t) a b n c m d x y _ (by exact hx.grown (by repeat (first | exact gb_refl _ _ | apply gb_drew | apply gb_alloc | (refine gb_then ?_ (by assumption) (by simp))))) (by exact hy.grown (by repeat (first | exact gb_refl _ _ | apply gb_drew | apply gb_alloc | (refine gb_then ?_ (by assumption) (by simp))))) h1 h2).mono ?_; rintro e w5 ⟨s5, a5, l5, rfl, ho5, hn5, hs5, hi5, hk5, ha5, hg5⟩; obtain ⟨hp5, hq5, hr5⟩ := box_kept (w.heap.size + 1 + 1) hg5 (by first | (simp; done) | (simp; omega) | omega))
  refine bodyPost_ret (v := .agg #[.bool s5, .slice a5 l5.length l5.length]) (by simp [results, Try.results24, go_sem, hp5, hr5, hq5]) rfl ?_
  refine int_end (by repeat (first | exact gb_refl _ _ | apply gb_drew | apply gb_alloc | (refine gb_then ?_ (by assumption) (by simp)))) ho5 (g := w.heap.size + 1 + 1) (by first | (simp; done) | (simp; omega) | omega) (by omega) (by first | (simp; done) | (simp; omega) | omega) hn5 hs5 (hi5.trans (by rw [iv_not]; omega)) hk5 ha5 _ _

set_option maxHeartbeats 3200000 in
theorem mul_tr (s t : Bool) (a b : Option Addr) (n c m d : Nat) (x y : List Nat) (w : World) (hx : SL w a n c x) (hy : SL w b m d y) (h1 : (tr x).length + (tr y).length ≤ 35184372088832) :
    Calls Try.prog 25 #[.agg #[.bool s, .slice a n c], .agg #[.bool t, .slice b m d]] w (IntPost w (iv s x * iv t y) (n + m)) := by
  have hxl := hx.len
  have hyl := hy.len
  have htx := tr_le x
  have hty := tr_le y
  have hne1 : ¬ (w.heap.size + 1 + 1 = w.heap.size) := by omega
  have hne2 : ¬ (w.heap.size + 1 + 1 = w.heap.size + 1) := by omega
  go_enter Try.func25, Try.ntmps25
  go_wp2
  go_region_held3 (fun w' => w'.cell? ⟨w.heap.size, 0, none⟩ = some (.bool s) ∧ w'.cell? ⟨w.heap.size, 1, none⟩ = some (.slice a n c) ∧ w'.cell? ⟨w.heap.size + 1, 0, none⟩ = some (.bool t) ∧ w'.cell? ⟨w.heap.size + 1, 1, none⟩ = some (.slice b m d)) (go_keep) (first
    | (go_at_call_of 44 (Value.slice a n c); refine (trim_raw a n c x _ (by exact hx.grown (by repeat (first | exact gb_refl _ _ | apply gb_drew | apply gb_alloc | (refine gb_then ?_ (by assumption) (by simp)))))).mono ?_; rintro e w1 ⟨a1, rfl, rfl, ha1⟩)
    | (go_at_call_of 44 (Value.slice b m d); refine (trim_raw b m d y _ (by exact hy.grown (by repeat (first | exact gb_refl _ _ | apply gb_drew | apply gb_alloc | (refine gb_then ?_ (by assumption) (by simp)))))).mono ?_; rintro e w2 ⟨b1, rfl, rfl, hb1⟩)
    | (go_at_call 52; refine (product_raw a1 b1 _ _ _ _ (tr x) (tr y) _ (by exact (hx.grown (by repeat (first | exact gb_refl _ _ | apply gb_drew | apply gb_alloc | (refine gb_then ?_ (by assumption) (by simp))))).trim ha1) (by exact (hy.grown (by repeat (first | exact gb_refl _ _ | apply gb_drew | apply gb_alloc | (refine gb_then ?_ (by assumption) (by simp))))).trim hb1) (by omega)).mono ?_; rintro e w4 ⟨g4, N, rfl, hr4', hN4, hl4, hB4, hv4, hg4⟩; obtain ⟨hc4, hf4, hz4⟩ := box_kept w.heap.size hg4 (by first | (simp; done) | (simp; omega) | omega); obtain ⟨hd4, he4, hy4⟩ := box_kept (w.heap.size + 1) hg4 (by first | (simp; done) | (simp; omega) | omega); obtain ⟨hp4, hq4, hr4⟩ := box_kept (w.heap.size + 1 + 1) hg4 (by first | (simp; done) | (simp; omega) | omega))
    | (go_at_call 43; refine (made_own (s != t) _ _ _ _ N _ (by exact OW.of_row (L := []) (by simpa using hr4') hB4 hN4 (Nat.le_refl _) (by omega) (by omega) hl4)).mono ?_; rintro e w5 ⟨s5, a5, l5, rfl, ho5, hn5, hs5, hi5, hk5, ha5, hg5⟩; obtain ⟨hc5, hf5, hz5⟩ := box_kept w.heap.size hg5 (by first | (simp; done) | (simp; omega) | omega); obtain ⟨hd5, he5, hy5⟩ := box_kept (w.heap.size + 1) hg5 (by first | (simp; done) | (simp; omega) | omega); obtain ⟨hp5, hq5, hr5⟩ := box_kept (w.heap.size + 1 + 1) hg5 (by first | (simp; done) | (simp; omega) | omega)))
  all_goals go_wp2
  all_goals
    refine bodyPost_ret (v := .agg #[.bool s5, .slice a5 l5.length l5.length]) (by simp [results, Try.results25, go_sem, hp5, hp4, hr5, hq5, hq4]) rfl ?_
    have hzz := hg4.size
    refine int_end (by repeat (first | exact gb_refl _ _ | apply gb_drew | apply gb_alloc | (refine gb_then ?_ (by assumption) (by simp)))) ho5 (g := w.heap.size + 1 + 1) (by first | (simp; done) | (simp; omega) | omega) (by omega) (by first | (simp; done) | (simp; omega) | omega) hn5 hs5 (hi5.trans (mul_iv hv4)) (Nat.le_trans hk5 (by omega)) ha5 _ _

theorem mul_raw (s t : Bool) (a b : Option Addr) (n c m d : Nat) (x y : List Nat) (w : World) (hx : SL w a n c x) (hy : SL w b m d y) (h1 : n + m ≤ 35184372088832) :
    Calls Try.prog 25 #[.agg #[.bool s, .slice a n c], .agg #[.bool t, .slice b m d]] w (IntPost w (iv s x * iv t y) (n + m)) :=
  mul_tr s t a b n c m d x y w hx hy (by have := tr_le x; have := tr_le y; have := hx.len; have := hy.len; omega)
end Go.Proofs.Ytonfnkchpicoiaa
