/-
  Neg, Abs, Sign, Valid, Of of the program.
-/
import Derived.Test.YtcmhfeeocehlaaaGreatDoorNorm
namespace Go.Proofs.YtcmhfeeocehlaaaGreatDoor
set_option linter.unusedSimpArgs false
set_option linter.unusedVariables false
open Go.RowKit
attribute [local go_sem ↓] Go.wp_at_zero Go.wp_at_succ

theorem iv_not (s : Bool) (l : List Nat) : iv (!s) l = - iv s l := by cases s <;> simp [iv]
theorem iv_abs (s : Bool) (l : List Nat) : iv false l = ((iv s l).natAbs : Int) := by cases s <;> simp [iv]
theorem sgn_iv (s : Bool) (l : List Nat) : sgn (iv s l) = if tr l = [] then 0 else if s = true then -1 else 1 := by
  by_cases h : tr l = []
  · have : val l = 0 := by rw [← val_tr, h]; rfl
    rw [if_pos h]; cases s <;> simp [iv, this, sgn]
  · have hp : val l ≠ 0 := by
      intro e
      exact h (val_zero_nrm (nrm_tr l) (by rw [val_tr]; exact e))
    rw [if_neg h]
    cases s
    · simp only [iv, sgn]; simp; omega
    · simp only [iv, sgn]; simp; omega

set_option maxHeartbeats 1600000 in
theorem neg_raw (s : Bool) (a : Option Addr) (n c : Nat) (x : List Nat) (w : World) (hx : SL w a n c x) :
    Calls Tryz.prog 83 #[.agg #[.bool s, .slice a n c]] w (IntPost w (-(iv s x)) n) := by
  go_enter Tryz.func83, Tryz.ntmps83
  go_wp2
  go_region_held3 (fun w' => w'.cell? ⟨w.heap.size, 0, none⟩ = some (.bool s) ∧ w'.cell? ⟨w.heap.size, 1, none⟩ = some (.slice a n c)) (go_keep) (first
    | (go_at_call 101; refine (trim_raw a n c x _ (by exact hx.grown (by repeat (first | exact gb_refl _ _ | apply gb_drew | apply gb_alloc)))).mono ?_; rintro e w1 ⟨a1, rfl, rfl, ha⟩)
    | (go_at_call 100; refine (clone_raw a1 _ _ (tr x) _ (by exact (hx.grown (by repeat (first | exact gb_refl _ _ | apply gb_drew | apply gb_alloc))).trim ha) (by intro e; rcases ha with ha | ha; exact ha.2; exact absurd e ha.1)).mono ?_; rintro e w2 ⟨a2, c2, rfl, ho2, hg2⟩; obtain ⟨hc2, hf2, hz2⟩ := box_kept (w.heap.size + 1) hg2 (by simp); obtain ⟨hc2', hf2', hz2'⟩ := box_kept w.heap.size hg2 (by simp; omega))
    | (go_at_call 98; refine (made_own (!s) _ a2 _ c2 (tr x) _ (by exact ho2)).mono ?_; rintro e w3 ⟨s3, a3, l3, rfl, ho3, hn3, hs3, hi3, hk3, ha3, hg3⟩; obtain ⟨hc3, hf3, hz3⟩ := box_kept (w.heap.size + 1) hg3 (by exact hz2); obtain ⟨hc3', hf3', hz3'⟩ := box_kept w.heap.size hg3 (by exact hz2')))
  go_wp2
  refine bodyPost_ret (v := .agg #[.bool s3, .slice a3 l3.length l3.length]) (by simp [results, Tryz.results83, go_sem, hc3, hc2, hz3, hf3, hf2]) rfl ?_
  have hzz := hg2.size
  refine int_end (gb_then (gb_then (gb_drew (gb_alloc (gb_alloc (gb_refl w none) _) _)) hg2 (by simp)) hg3 (by simp)) ho3 (by simp) (by omega) (by simp; omega) hn3 hs3 (hi3.trans (by rw [iv_of_val (val_tr x), iv_not])) (Nat.le_trans hk3 (by rw [tr_length, hx.len]; exact tl_le _ _)) ha3 _ _

/-- a number is answered, nothing old is written -/
def NumPost (w : World) (z : Int) (e : Ending) (w' : World) : Prop := e = .returned (.int .i64 z) ∧ w.grownBy w' none
def BoolPost (w : World) (b : Bool) (e : Ending) (w' : World) : Prop := e = .returned (.bool b) ∧ w.grownBy w' none

end Go.Proofs.YtcmhfeeocehlaaaGreatDoor
