/-
  Cmp, Valid of the program.
-/
import Derived.Test.YtonfnkchpicoiaaInts
namespace Go.Proofs.Ytonfnkchpicoiaa
set_option linter.unusedSimpArgs false
set_option linter.unusedVariables false
open Go.RowKit
attribute [local go_sem ↓] Go.wp_at_zero Go.wp_at_succ

theorem cmp_signs (s t : Bool) (x y : List Nat) (h : sgn (iv s x) ≠ sgn (iv t y)) : sgn (sgn (iv s x) - sgn (iv t y)) = sgn (iv s x - iv t y) := by
  generalize iv s x = p at *
  generalize iv t y = q at *
  unfold sgn at *
  repeat' split at h
  all_goals (repeat' split) <;> omega
theorem cmp_pos (s t : Bool) (x y : List Nat) (h : sgn (iv s x) = sgn (iv t y)) (hp : ¬ sgn (iv s x) < 0) : sgn ((val (tr x) : Int) - val (tr y)) = sgn (iv s x - iv t y) := by
  rw [val_tr, val_tr]
  cases s <;> cases t <;> simp only [iv, if_true, if_false, Bool.false_eq_true] at * <;> unfold sgn at * <;> (repeat' split at h) <;> (repeat' split) <;> omega
theorem cmp_neg (s t : Bool) (x y : List Nat) (h : sgn (iv s x) = sgn (iv t y)) (hp : sgn (iv s x) < 0) : sgn ((val (tr y) : Int) - val (tr x)) = sgn (iv s x - iv t y) := by
  rw [val_tr, val_tr]
  cases s <;> cases t <;> simp only [iv, if_true, if_false, Bool.false_eq_true] at * <;> unfold sgn at * <;> (repeat' split at h) <;> (repeat' split) <;> omega

set_option maxHeartbeats 3200000 in
theorem cmp_raw (s t : Bool) (a b : Option Addr) (n c m d : Nat) (x y : List Nat) (w : World) (hx : SL w a n c x) (hy : SL w b m d y) :
    Calls Try.prog 20 #[.agg #[.bool s, .slice a n c], .agg #[.bool t, .slice b m d]] w (NumPost w (sgn (iv s x - iv t y))) := by
  by_cases hst : sgn (iv s x) = sgn (iv t y)
  · have hne : (sgn (iv s x) != sgn (iv t y)) = false := by rw [hst]; simp
    by_cases hp : sgn (iv s x) < 0
    · have HS := hid (cmp_neg s t x y hst hp)
      clear hst
      go_enter Try.func20, Try.ntmps20
      go_wp2
      go_region_held3 (fun w' => w'.cell? ⟨w.heap.size, 0, none⟩ = some (.bool s) ∧ w'.cell? ⟨w.heap.size, 1, none⟩ = some (.slice a n c) ∧ w'.cell? ⟨w.heap.size + 1, 0, none⟩ = some (.bool t) ∧ w'.cell? ⟨w.heap.size + 1, 1, none⟩ = some (.slice b m d)) (go_keep) (first
        | (go_at_call_of 19 (Value.agg #[Value.bool s, Value.slice a n c]); refine (sign_raw s a n c x _ (by exact hx.grown (by repeat (first | exact gb_refl _ _ | apply gb_drew | apply gb_alloc | (refine gb_then ?_ (by assumption) (by simp)))))).mono ?_; rintro e w1 ⟨rfl, hg1⟩; obtain ⟨hc1, hf1, hz1⟩ := box_kept w.heap.size hg1 (by first | (simp; done) | (simp; omega) | omega); obtain ⟨hd1, he1, hy1⟩ := box_kept (w.heap.size + 1) hg1 (by first | (simp; done) | (simp; omega) | omega))
        | (go_at_call_of 19 (Value.agg #[Value.bool t, Value.slice b m d]); refine (sign_raw t b m d y _ (by exact hy.grown (by repeat (first | exact gb_refl _ _ | apply gb_drew | apply gb_alloc | (refine gb_then ?_ (by assumption) (by simp)))))).mono ?_; rintro e w2 ⟨rfl, hg2⟩; obtain ⟨hc2, hf2, hz2⟩ := box_kept w.heap.size hg2 (by first | (simp; done) | (simp; omega) | omega); obtain ⟨hd2, he2, hy2⟩ := box_kept (w.heap.size + 1) hg2 (by first | (simp; done) | (simp; omega) | omega)))
      go_wp2
      go_region_held3 (fun w' => w'.cell? ⟨w.heap.size, 1, none⟩ = some (.slice a n c) ∧ w'.cell? ⟨w.heap.size + 1, 1, none⟩ = some (.slice b m d)) (go_keep) (first
        | (go_at_call_of 44 (Value.slice a n c); refine (trim_raw a n c x _ (by exact hx.grown (by repeat (first | exact gb_refl _ _ | apply gb_drew | apply gb_alloc | (refine gb_then ?_ (by assumption) (by simp)))))).mono ?_; rintro e w3 ⟨a3, rfl, rfl, ha3⟩)
        | (go_at_call_of 44 (Value.slice b m d); refine (trim_raw b m d y _ (by exact hy.grown (by repeat (first | exact gb_refl _ _ | apply gb_drew | apply gb_alloc | (refine gb_then ?_ (by assumption) (by simp)))))).mono ?_; rintro e w4 ⟨b3, rfl, rfl, hb3⟩)
        | (go_at_call 49; refine (compare_raw b3 a3 _ _ _ _ (tr y) (tr x) _ (by exact (hy.grown (by repeat (first | exact gb_refl _ _ | apply gb_drew | apply gb_alloc | (refine gb_then ?_ (by assumption) (by simp))))).trim hb3) (by exact (hx.grown (by repeat (first | exact gb_refl _ _ | apply gb_drew | apply gb_alloc | (refine gb_then ?_ (by assumption) (by simp))))).trim ha3) (nrm_tr y) (nrm_tr x)).mono ?_; rintro e w5 ⟨rfl, hg5⟩; obtain ⟨hc5, hf5, hz5⟩ := box_kept w.heap.size hg5 (by first | (simp; done) | (simp; omega) | omega); obtain ⟨hd5, he5, hy5⟩ := box_kept (w.heap.size + 1) hg5 (by first | (simp; done) | (simp; omega) | omega)))
      all_goals go_wp2
      all_goals go_ret
      all_goals exact ⟨ret_int HS.out, (by repeat (first | exact gb_refl _ _ | apply gb_drew | apply gb_alloc | (refine gb_then ?_ (by assumption) (by simp))))⟩
    · have HS := hid (cmp_pos s t x y hst hp)
      clear hst
      go_enter Try.func20, Try.ntmps20
      go_wp2
      go_region_held3 (fun w' => w'.cell? ⟨w.heap.size, 0, none⟩ = some (.bool s) ∧ w'.cell? ⟨w.heap.size, 1, none⟩ = some (.slice a n c) ∧ w'.cell? ⟨w.heap.size + 1, 0, none⟩ = some (.bool t) ∧ w'.cell? ⟨w.heap.size + 1, 1, none⟩ = some (.slice b m d)) (go_keep) (first
        | (go_at_call_of 19 (Value.agg #[Value.bool s, Value.slice a n c]); refine (sign_raw s a n c x _ (by exact hx.grown (by repeat (first | exact gb_refl _ _ | apply gb_drew | apply gb_alloc | (refine gb_then ?_ (by assumption) (by simp)))))).mono ?_; rintro e w1 ⟨rfl, hg1⟩; obtain ⟨hc1, hf1, hz1⟩ := box_kept w.heap.size hg1 (by first | (simp; done) | (simp; omega) | omega); obtain ⟨hd1, he1, hy1⟩ := box_kept (w.heap.size + 1) hg1 (by first | (simp; done) | (simp; omega) | omega))
        | (go_at_call_of 19 (Value.agg #[Value.bool t, Value.slice b m d]); refine (sign_raw t b m d y _ (by exact hy.grown (by repeat (first | exact gb_refl _ _ | apply gb_drew | apply gb_alloc | (refine gb_then ?_ (by assumption) (by simp)))))).mono ?_; rintro e w2 ⟨rfl, hg2⟩; obtain ⟨hc2, hf2, hz2⟩ := box_kept w.heap.size hg2 (by first | (simp; done) | (simp; omega) | omega); obtain ⟨hd2, he2, hy2⟩ := box_kept (w.heap.size + 1) hg2 (by first | (simp; done) | (simp; omega) | omega)))
      go_wp2
      go_region_held3 (fun w' => w'.cell? ⟨w.heap.size, 1, none⟩ = some (.slice a n c) ∧ w'.cell? ⟨w.heap.size + 1, 1, none⟩ = some (.slice b m d)) (go_keep) (first
        | (go_at_call_of 44 (Value.slice a n c); refine (trim_raw a n c x _ (by exact hx.grown (by repeat (first | exact gb_refl _ _ | apply gb_drew | apply gb_alloc | (refine gb_then ?_ (by assumption) (by simp)))))).mono ?_; rintro e w3 ⟨a3, rfl, rfl, ha3⟩)
        | (go_at_call_of 44 (Value.slice b m d); refine (trim_raw b m d y _ (by exact hy.grown (by repeat (first | exact gb_refl _ _ | apply gb_drew | apply gb_alloc | (refine gb_then ?_ (by assumption) (by simp)))))).mono ?_; rintro e w4 ⟨b3, rfl, rfl, hb3⟩)
        | (go_at_call 49; refine (compare_raw a3 b3 _ _ _ _ (tr x) (tr y) _ (by exact (hx.grown (by repeat (first | exact gb_refl _ _ | apply gb_drew | apply gb_alloc | (refine gb_then ?_ (by assumption) (by simp))))).trim ha3) (by exact (hy.grown (by repeat (first | exact gb_refl _ _ | apply gb_drew | apply gb_alloc | (refine gb_then ?_ (by assumption) (by simp))))).trim hb3) (nrm_tr x) (nrm_tr y)).mono ?_; rintro e w5 ⟨rfl, hg5⟩; obtain ⟨hc5, hf5, hz5⟩ := box_kept w.heap.size hg5 (by first | (simp; done) | (simp; omega) | omega); obtain ⟨hd5, he5, hy5⟩ := box_kept (w.heap.size + 1) hg5 (by first | (simp; done) | (simp; omega) | omega)))
      all_goals go_wp2
      all_goals go_ret
      all_goals exact ⟨ret_int HS.out, (by repeat (first | exact gb_refl _ _ | apply gb_drew | apply gb_alloc | (refine gb_then ?_ (by assumption) (by simp))))⟩
  · have HS := hid (cmp_signs s t x y hst)
    have hne : (sgn (iv s x) != sgn (iv t y)) = true := by rw [bne_iff_ne]; exact hst
    clear hst
    go_enter Try.func20, Try.ntmps20
    go_wp2
    go_region_held3 (fun w' => w'.cell? ⟨w.heap.size, 0, none⟩ = some (.bool s) ∧ w'.cell? ⟨w.heap.size, 1, none⟩ = some (.slice a n c) ∧ w'.cell? ⟨w.heap.size + 1, 0, none⟩ = some (.bool t) ∧ w'.cell? ⟨w.heap.size + 1, 1, none⟩ = some (.slice b m d)) (go_keep) (first
      | (go_at_call_of 19 (Value.agg #[Value.bool s, Value.slice a n c]); refine (sign_raw s a n c x _ (by exact hx.grown (by repeat (first | exact gb_refl _ _ | apply gb_drew | apply gb_alloc | (refine gb_then ?_ (by assumption) (by simp)))))).mono ?_; rintro e w1 ⟨rfl, hg1⟩; obtain ⟨hc1, hf1, hz1⟩ := box_kept w.heap.size hg1 (by first | (simp; done) | (simp; omega) | omega); obtain ⟨hd1, he1, hy1⟩ := box_kept (w.heap.size + 1) hg1 (by first | (simp; done) | (simp; omega) | omega))
      | (go_at_call_of 19 (Value.agg #[Value.bool t, Value.slice b m d]); refine (sign_raw t b m d y _ (by exact hy.grown (by repeat (first | exact gb_refl _ _ | apply gb_drew | apply gb_alloc | (refine gb_then ?_ (by assumption) (by simp)))))).mono ?_; rintro e w2 ⟨rfl, hg2⟩; obtain ⟨hc2, hf2, hz2⟩ := box_kept w.heap.size hg2 (by first | (simp; done) | (simp; omega) | omega); obtain ⟨hd2, he2, hy2⟩ := box_kept (w.heap.size + 1) hg2 (by first | (simp; done) | (simp; omega) | omega)))
    go_wp2_with (go_at_call 48; refine (cmpInt _ _ _).mono ?_; rintro e w3 ⟨rfl, rfl⟩)
    go_ret
    exact ⟨ret_int HS.out, (by repeat (first | exact gb_refl _ _ | apply gb_drew | apply gb_alloc | (refine gb_then ?_ (by assumption) (by simp))))⟩
end Go.Proofs.Ytonfnkchpicoiaa
