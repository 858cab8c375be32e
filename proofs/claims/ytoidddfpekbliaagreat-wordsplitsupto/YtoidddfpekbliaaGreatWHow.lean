/-
  word: how an instruction does it may be. Made by gen_whow.py.
-/
import Derived.Test.YtoidddfpekbliaaGreatWJ00
namespace Go.Proofs.YtoidddfpekbliaaGreat
set_option linter.unusedSimpArgs false
set_option linter.unusedVariables false
open Go.RowKit
attribute [local go_sem ↓] Go.wp_at_zero Go.wp_at_succ

/-- a condition, what is done with reals, a size may be, where the kind names it -/
def howF (k cond real size : Int) : Bool :=
  if k = 15 ∨ k = 21 then decide (1 ≤ cond) && decide (cond ≤ 6) else if k = 16 then decide (1 ≤ real) && decide (real ≤ 8) else if k = 17 ∨ k = 18 then sizeF size else true

section
variable (k d a b l f cond real size imm : Int) (av : Value) (w : World)

set_option maxRecDepth 100000 in
theorem how1 : Calls Tryz.prog 100 #[.agg #[.int .i64 1, .int .i64 d, .int .i64 a, .int .i64 b, .int .i64 l, .int .i64 f, .int .i64 cond, .int .i64 real, .int .i64 size, .int .i64 imm, av]] w fun e w' => e = .returned (.bool (howF 1 cond real size)) ∧ Tn No w w' := by
    have HT : Hid (∀ o, Tn No w (w.alloc o)) := hid (fun o => (Tn.refl No w).alloc o)
    have ev : howF 1 cond real size = (true) := rfl
    have HF : Hid (∀ u, Calls Tryz.prog 96 #[.int .i64 1] u fun e w' => e = .returned (.int .i64 1) ∧ w' = u) := hid (fun u => fields_raw 1 u)
    rw [ev]
    go_enter Tryz.func100, Tryz.ntmps100
    go_wp2_with (first
      | (go_at_call 96; refine (HF.out _).mono ?_; rintro e w2 ⟨rfl, rfl⟩)
      | (go_at_call 93; refine (among_raw _ _ _ _).mono ?_; rintro e w2 ⟨rfl, rfl⟩)
      | (go_at_call 53; refine (size_raw _ _).mono ?_; rintro e w2 ⟨rfl, rfl⟩))
    go_ret
    exact ⟨rfl, HT.out _⟩

set_option maxRecDepth 100000 in
theorem how2 : Calls Tryz.prog 100 #[.agg #[.int .i64 2, .int .i64 d, .int .i64 a, .int .i64 b, .int .i64 l, .int .i64 f, .int .i64 cond, .int .i64 real, .int .i64 size, .int .i64 imm, av]] w fun e w' => e = .returned (.bool (howF 2 cond real size)) ∧ Tn No w w' := by
    have HT : Hid (∀ o, Tn No w (w.alloc o)) := hid (fun o => (Tn.refl No w).alloc o)
    have ev : howF 2 cond real size = (true) := rfl
    have HF : Hid (∀ u, Calls Tryz.prog 96 #[.int .i64 2] u fun e w' => e = .returned (.int .i64 3) ∧ w' = u) := hid (fun u => fields_raw 2 u)
    rw [ev]
    go_enter Tryz.func100, Tryz.ntmps100
    go_wp2_with (first
      | (go_at_call 96; refine (HF.out _).mono ?_; rintro e w2 ⟨rfl, rfl⟩)
      | (go_at_call 93; refine (among_raw _ _ _ _).mono ?_; rintro e w2 ⟨rfl, rfl⟩)
      | (go_at_call 53; refine (size_raw _ _).mono ?_; rintro e w2 ⟨rfl, rfl⟩))
    go_ret
    exact ⟨rfl, HT.out _⟩

set_option maxRecDepth 100000 in
theorem how3 : Calls Tryz.prog 100 #[.agg #[.int .i64 3, .int .i64 d, .int .i64 a, .int .i64 b, .int .i64 l, .int .i64 f, .int .i64 cond, .int .i64 real, .int .i64 size, .int .i64 imm, av]] w fun e w' => e = .returned (.bool (howF 3 cond real size)) ∧ Tn No w w' := by
    have HT : Hid (∀ o, Tn No w (w.alloc o)) := hid (fun o => (Tn.refl No w).alloc o)
    have ev : howF 3 cond real size = (true) := rfl
    have HF : Hid (∀ u, Calls Tryz.prog 96 #[.int .i64 3] u fun e w' => e = .returned (.int .i64 7) ∧ w' = u) := hid (fun u => fields_raw 3 u)
    rw [ev]
    go_enter Tryz.func100, Tryz.ntmps100
    go_wp2_with (first
      | (go_at_call 96; refine (HF.out _).mono ?_; rintro e w2 ⟨rfl, rfl⟩)
      | (go_at_call 93; refine (among_raw _ _ _ _).mono ?_; rintro e w2 ⟨rfl, rfl⟩)
      | (go_at_call 53; refine (size_raw _ _).mono ?_; rintro e w2 ⟨rfl, rfl⟩))
    go_ret
    exact ⟨rfl, HT.out _⟩

set_option maxRecDepth 100000 in
theorem how4 : Calls Tryz.prog 100 #[.agg #[.int .i64 4, .int .i64 d, .int .i64 a, .int .i64 b, .int .i64 l, .int .i64 f, .int .i64 cond, .int .i64 real, .int .i64 size, .int .i64 imm, av]] w fun e w' => e = .returned (.bool (howF 4 cond real size)) ∧ Tn No w w' := by
    have HT : Hid (∀ o, Tn No w (w.alloc o)) := hid (fun o => (Tn.refl No w).alloc o)
    have ev : howF 4 cond real size = (true) := rfl
    have HF : Hid (∀ u, Calls Tryz.prog 96 #[.int .i64 4] u fun e w' => e = .returned (.int .i64 7) ∧ w' = u) := hid (fun u => fields_raw 4 u)
    rw [ev]
    go_enter Tryz.func100, Tryz.ntmps100
    go_wp2_with (first
      | (go_at_call 96; refine (HF.out _).mono ?_; rintro e w2 ⟨rfl, rfl⟩)
      | (go_at_call 93; refine (among_raw _ _ _ _).mono ?_; rintro e w2 ⟨rfl, rfl⟩)
      | (go_at_call 53; refine (size_raw _ _).mono ?_; rintro e w2 ⟨rfl, rfl⟩))
    go_ret
    exact ⟨rfl, HT.out _⟩

set_option maxRecDepth 100000 in
theorem how5 : Calls Tryz.prog 100 #[.agg #[.int .i64 5, .int .i64 d, .int .i64 a, .int .i64 b, .int .i64 l, .int .i64 f, .int .i64 cond, .int .i64 real, .int .i64 size, .int .i64 imm, av]] w fun e w' => e = .returned (.bool (howF 5 cond real size)) ∧ Tn No w w' := by
    have HT : Hid (∀ o, Tn No w (w.alloc o)) := hid (fun o => (Tn.refl No w).alloc o)
    have ev : howF 5 cond real size = (true) := rfl
    have HF : Hid (∀ u, Calls Tryz.prog 96 #[.int .i64 5] u fun e w' => e = .returned (.int .i64 7) ∧ w' = u) := hid (fun u => fields_raw 5 u)
    rw [ev]
    go_enter Tryz.func100, Tryz.ntmps100
    go_wp2_with (first
      | (go_at_call 96; refine (HF.out _).mono ?_; rintro e w2 ⟨rfl, rfl⟩)
      | (go_at_call 93; refine (among_raw _ _ _ _).mono ?_; rintro e w2 ⟨rfl, rfl⟩)
      | (go_at_call 53; refine (size_raw _ _).mono ?_; rintro e w2 ⟨rfl, rfl⟩))
    go_ret
    exact ⟨rfl, HT.out _⟩

set_option maxRecDepth 100000 in
theorem how6 : Calls Tryz.prog 100 #[.agg #[.int .i64 6, .int .i64 d, .int .i64 a, .int .i64 b, .int .i64 l, .int .i64 f, .int .i64 cond, .int .i64 real, .int .i64 size, .int .i64 imm, av]] w fun e w' => e = .returned (.bool (howF 6 cond real size)) ∧ Tn No w w' := by
    have HT : Hid (∀ o, Tn No w (w.alloc o)) := hid (fun o => (Tn.refl No w).alloc o)
    have ev : howF 6 cond real size = (true) := rfl
    have HF : Hid (∀ u, Calls Tryz.prog 96 #[.int .i64 6] u fun e w' => e = .returned (.int .i64 7) ∧ w' = u) := hid (fun u => fields_raw 6 u)
    rw [ev]
    go_enter Tryz.func100, Tryz.ntmps100
    go_wp2_with (first
      | (go_at_call 96; refine (HF.out _).mono ?_; rintro e w2 ⟨rfl, rfl⟩)
      | (go_at_call 93; refine (among_raw _ _ _ _).mono ?_; rintro e w2 ⟨rfl, rfl⟩)
      | (go_at_call 53; refine (size_raw _ _).mono ?_; rintro e w2 ⟨rfl, rfl⟩))
    go_ret
    exact ⟨rfl, HT.out _⟩

set_option maxRecDepth 100000 in
theorem how7 : Calls Tryz.prog 100 #[.agg #[.int .i64 7, .int .i64 d, .int .i64 a, .int .i64 b, .int .i64 l, .int .i64 f, .int .i64 cond, .int .i64 real, .int .i64 size, .int .i64 imm, av]] w fun e w' => e = .returned (.bool (howF 7 cond real size)) ∧ Tn No w w' := by
    have HT : Hid (∀ o, Tn No w (w.alloc o)) := hid (fun o => (Tn.refl No w).alloc o)
    have ev : howF 7 cond real size = (true) := rfl
    have HF : Hid (∀ u, Calls Tryz.prog 96 #[.int .i64 7] u fun e w' => e = .returned (.int .i64 7) ∧ w' = u) := hid (fun u => fields_raw 7 u)
    rw [ev]
    go_enter Tryz.func100, Tryz.ntmps100
    go_wp2_with (first
      | (go_at_call 96; refine (HF.out _).mono ?_; rintro e w2 ⟨rfl, rfl⟩)
      | (go_at_call 93; refine (among_raw _ _ _ _).mono ?_; rintro e w2 ⟨rfl, rfl⟩)
      | (go_at_call 53; refine (size_raw _ _).mono ?_; rintro e w2 ⟨rfl, rfl⟩))
    go_ret
    exact ⟨rfl, HT.out _⟩

set_option maxRecDepth 100000 in
theorem how8 : Calls Tryz.prog 100 #[.agg #[.int .i64 8, .int .i64 d, .int .i64 a, .int .i64 b, .int .i64 l, .int .i64 f, .int .i64 cond, .int .i64 real, .int .i64 size, .int .i64 imm, av]] w fun e w' => e = .returned (.bool (howF 8 cond real size)) ∧ Tn No w w' := by
    have HT : Hid (∀ o, Tn No w (w.alloc o)) := hid (fun o => (Tn.refl No w).alloc o)
    have ev : howF 8 cond real size = (true) := rfl
    have HF : Hid (∀ u, Calls Tryz.prog 96 #[.int .i64 8] u fun e w' => e = .returned (.int .i64 7) ∧ w' = u) := hid (fun u => fields_raw 8 u)
    rw [ev]
    go_enter Tryz.func100, Tryz.ntmps100
    go_wp2_with (first
      | (go_at_call 96; refine (HF.out _).mono ?_; rintro e w2 ⟨rfl, rfl⟩)
      | (go_at_call 93; refine (among_raw _ _ _ _).mono ?_; rintro e w2 ⟨rfl, rfl⟩)
      | (go_at_call 53; refine (size_raw _ _).mono ?_; rintro e w2 ⟨rfl, rfl⟩))
    go_ret
    exact ⟨rfl, HT.out _⟩

set_option maxRecDepth 100000 in
theorem how9 : Calls Tryz.prog 100 #[.agg #[.int .i64 9, .int .i64 d, .int .i64 a, .int .i64 b, .int .i64 l, .int .i64 f, .int .i64 cond, .int .i64 real, .int .i64 size, .int .i64 imm, av]] w fun e w' => e = .returned (.bool (howF 9 cond real size)) ∧ Tn No w w' := by
    have HT : Hid (∀ o, Tn No w (w.alloc o)) := hid (fun o => (Tn.refl No w).alloc o)
    have ev : howF 9 cond real size = (true) := rfl
    have HF : Hid (∀ u, Calls Tryz.prog 96 #[.int .i64 9] u fun e w' => e = .returned (.int .i64 7) ∧ w' = u) := hid (fun u => fields_raw 9 u)
    rw [ev]
    go_enter Tryz.func100, Tryz.ntmps100
    go_wp2_with (first
      | (go_at_call 96; refine (HF.out _).mono ?_; rintro e w2 ⟨rfl, rfl⟩)
      | (go_at_call 93; refine (among_raw _ _ _ _).mono ?_; rintro e w2 ⟨rfl, rfl⟩)
      | (go_at_call 53; refine (size_raw _ _).mono ?_; rintro e w2 ⟨rfl, rfl⟩))
    go_ret
    exact ⟨rfl, HT.out _⟩

set_option maxRecDepth 100000 in
theorem how10 : Calls Tryz.prog 100 #[.agg #[.int .i64 10, .int .i64 d, .int .i64 a, .int .i64 b, .int .i64 l, .int .i64 f, .int .i64 cond, .int .i64 real, .int .i64 size, .int .i64 imm, av]] w fun e w' => e = .returned (.bool (howF 10 cond real size)) ∧ Tn No w w' := by
    have HT : Hid (∀ o, Tn No w (w.alloc o)) := hid (fun o => (Tn.refl No w).alloc o)
    have ev : howF 10 cond real size = (true) := rfl
    have HF : Hid (∀ u, Calls Tryz.prog 96 #[.int .i64 10] u fun e w' => e = .returned (.int .i64 7) ∧ w' = u) := hid (fun u => fields_raw 10 u)
    rw [ev]
    go_enter Tryz.func100, Tryz.ntmps100
    go_wp2_with (first
      | (go_at_call 96; refine (HF.out _).mono ?_; rintro e w2 ⟨rfl, rfl⟩)
      | (go_at_call 93; refine (among_raw _ _ _ _).mono ?_; rintro e w2 ⟨rfl, rfl⟩)
      | (go_at_call 53; refine (size_raw _ _).mono ?_; rintro e w2 ⟨rfl, rfl⟩))
    go_ret
    exact ⟨rfl, HT.out _⟩

set_option maxRecDepth 100000 in
theorem how11 : Calls Tryz.prog 100 #[.agg #[.int .i64 11, .int .i64 d, .int .i64 a, .int .i64 b, .int .i64 l, .int .i64 f, .int .i64 cond, .int .i64 real, .int .i64 size, .int .i64 imm, av]] w fun e w' => e = .returned (.bool (howF 11 cond real size)) ∧ Tn No w w' := by
    have HT : Hid (∀ o, Tn No w (w.alloc o)) := hid (fun o => (Tn.refl No w).alloc o)
    have ev : howF 11 cond real size = (true) := rfl
    have HF : Hid (∀ u, Calls Tryz.prog 96 #[.int .i64 11] u fun e w' => e = .returned (.int .i64 7) ∧ w' = u) := hid (fun u => fields_raw 11 u)
    rw [ev]
    go_enter Tryz.func100, Tryz.ntmps100
    go_wp2_with (first
      | (go_at_call 96; refine (HF.out _).mono ?_; rintro e w2 ⟨rfl, rfl⟩)
      | (go_at_call 93; refine (among_raw _ _ _ _).mono ?_; rintro e w2 ⟨rfl, rfl⟩)
      | (go_at_call 53; refine (size_raw _ _).mono ?_; rintro e w2 ⟨rfl, rfl⟩))
    go_ret
    exact ⟨rfl, HT.out _⟩

set_option maxRecDepth 100000 in
theorem how12 : Calls Tryz.prog 100 #[.agg #[.int .i64 12, .int .i64 d, .int .i64 a, .int .i64 b, .int .i64 l, .int .i64 f, .int .i64 cond, .int .i64 real, .int .i64 size, .int .i64 imm, av]] w fun e w' => e = .returned (.bool (howF 12 cond real size)) ∧ Tn No w w' := by
    have HT : Hid (∀ o, Tn No w (w.alloc o)) := hid (fun o => (Tn.refl No w).alloc o)
    have ev : howF 12 cond real size = (true) := rfl
    have HF : Hid (∀ u, Calls Tryz.prog 96 #[.int .i64 12] u fun e w' => e = .returned (.int .i64 7) ∧ w' = u) := hid (fun u => fields_raw 12 u)
    rw [ev]
    go_enter Tryz.func100, Tryz.ntmps100
    go_wp2_with (first
      | (go_at_call 96; refine (HF.out _).mono ?_; rintro e w2 ⟨rfl, rfl⟩)
      | (go_at_call 93; refine (among_raw _ _ _ _).mono ?_; rintro e w2 ⟨rfl, rfl⟩)
      | (go_at_call 53; refine (size_raw _ _).mono ?_; rintro e w2 ⟨rfl, rfl⟩))
    go_ret
    exact ⟨rfl, HT.out _⟩

set_option maxRecDepth 100000 in
theorem how13 : Calls Tryz.prog 100 #[.agg #[.int .i64 13, .int .i64 d, .int .i64 a, .int .i64 b, .int .i64 l, .int .i64 f, .int .i64 cond, .int .i64 real, .int .i64 size, .int .i64 imm, av]] w fun e w' => e = .returned (.bool (howF 13 cond real size)) ∧ Tn No w w' := by
    have HT : Hid (∀ o, Tn No w (w.alloc o)) := hid (fun o => (Tn.refl No w).alloc o)
    have ev : howF 13 cond real size = (true) := rfl
    have HF : Hid (∀ u, Calls Tryz.prog 96 #[.int .i64 13] u fun e w' => e = .returned (.int .i64 7) ∧ w' = u) := hid (fun u => fields_raw 13 u)
    rw [ev]
    go_enter Tryz.func100, Tryz.ntmps100
    go_wp2_with (first
      | (go_at_call 96; refine (HF.out _).mono ?_; rintro e w2 ⟨rfl, rfl⟩)
      | (go_at_call 93; refine (among_raw _ _ _ _).mono ?_; rintro e w2 ⟨rfl, rfl⟩)
      | (go_at_call 53; refine (size_raw _ _).mono ?_; rintro e w2 ⟨rfl, rfl⟩))
    go_ret
    exact ⟨rfl, HT.out _⟩

set_option maxRecDepth 100000 in
theorem how14 : Calls Tryz.prog 100 #[.agg #[.int .i64 14, .int .i64 d, .int .i64 a, .int .i64 b, .int .i64 l, .int .i64 f, .int .i64 cond, .int .i64 real, .int .i64 size, .int .i64 imm, av]] w fun e w' => e = .returned (.bool (howF 14 cond real size)) ∧ Tn No w w' := by
    have HT : Hid (∀ o, Tn No w (w.alloc o)) := hid (fun o => (Tn.refl No w).alloc o)
    have ev : howF 14 cond real size = (true) := rfl
    have HF : Hid (∀ u, Calls Tryz.prog 96 #[.int .i64 14] u fun e w' => e = .returned (.int .i64 7) ∧ w' = u) := hid (fun u => fields_raw 14 u)
    rw [ev]
    go_enter Tryz.func100, Tryz.ntmps100
    go_wp2_with (first
      | (go_at_call 96; refine (HF.out _).mono ?_; rintro e w2 ⟨rfl, rfl⟩)
      | (go_at_call 93; refine (among_raw _ _ _ _).mono ?_; rintro e w2 ⟨rfl, rfl⟩)
      | (go_at_call 53; refine (size_raw _ _).mono ?_; rintro e w2 ⟨rfl, rfl⟩))
    go_ret
    exact ⟨rfl, HT.out _⟩

set_option maxRecDepth 100000 in
theorem how15 : Calls Tryz.prog 100 #[.agg #[.int .i64 15, .int .i64 d, .int .i64 a, .int .i64 b, .int .i64 l, .int .i64 f, .int .i64 cond, .int .i64 real, .int .i64 size, .int .i64 imm, av]] w fun e w' => e = .returned (.bool (howF 15 cond real size)) ∧ Tn No w w' := by
    have HT : Hid (∀ o, Tn No w (w.alloc o)) := hid (fun o => (Tn.refl No w).alloc o)
    have ev : howF 15 cond real size = (decide (1 ≤ cond) && decide (cond ≤ 6)) := rfl
    have HF : Hid (∀ u, Calls Tryz.prog 96 #[.int .i64 15] u fun e w' => e = .returned (.int .i64 71) ∧ w' = u) := hid (fun u => fields_raw 15 u)
    rw [ev]
    cases hb : (decide (1 ≤ cond) && decide (cond ≤ 6)) with
    | true =>
      have HA : Hid (∀ u, Calls Tryz.prog 93 #[.int .i64 cond, .int .i64 1, .int .i64 6] u fun e w' => e = .returned (.bool true) ∧ w' = u) := hid (fun u => by rw [← hb]; exact among_raw _ _ _ u)
      clear ev hb
      go_enter Tryz.func100, Tryz.ntmps100
      go_wp2_with (first
        | (go_at_call 96; refine (HF.out _).mono ?_; rintro e w2 ⟨rfl, rfl⟩)
        | (go_at_call 93; refine (HA.out _).mono ?_; rintro e w2 ⟨rfl, rfl⟩))
      go_ret
      exact ⟨rfl, HT.out _⟩
    | false =>
      have HA : Hid (∀ u, Calls Tryz.prog 93 #[.int .i64 cond, .int .i64 1, .int .i64 6] u fun e w' => e = .returned (.bool false) ∧ w' = u) := hid (fun u => by rw [← hb]; exact among_raw _ _ _ u)
      clear ev hb
      go_enter Tryz.func100, Tryz.ntmps100
      go_wp2_with (first
        | (go_at_call 96; refine (HF.out _).mono ?_; rintro e w2 ⟨rfl, rfl⟩)
        | (go_at_call 93; refine (HA.out _).mono ?_; rintro e w2 ⟨rfl, rfl⟩))
      go_ret
      exact ⟨rfl, HT.out _⟩

set_option maxRecDepth 100000 in
theorem how16 : Calls Tryz.prog 100 #[.agg #[.int .i64 16, .int .i64 d, .int .i64 a, .int .i64 b, .int .i64 l, .int .i64 f, .int .i64 cond, .int .i64 real, .int .i64 size, .int .i64 imm, av]] w fun e w' => e = .returned (.bool (howF 16 cond real size)) ∧ Tn No w w' := by
    have HT : Hid (∀ o, Tn No w (w.alloc o)) := hid (fun o => (Tn.refl No w).alloc o)
    have ev : howF 16 cond real size = (decide (1 ≤ real) && decide (real ≤ 8)) := rfl
    have HF : Hid (∀ u, Calls Tryz.prog 96 #[.int .i64 16] u fun e w' => e = .returned (.int .i64 135) ∧ w' = u) := hid (fun u => fields_raw 16 u)
    rw [ev]
    cases hb : (decide (1 ≤ real) && decide (real ≤ 8)) with
    | true =>
      have HA : Hid (∀ u, Calls Tryz.prog 93 #[.int .i64 real, .int .i64 1, .int .i64 8] u fun e w' => e = .returned (.bool true) ∧ w' = u) := hid (fun u => by rw [← hb]; exact among_raw _ _ _ u)
      clear ev hb
      go_enter Tryz.func100, Tryz.ntmps100
      go_wp2_with (first
        | (go_at_call 96; refine (HF.out _).mono ?_; rintro e w2 ⟨rfl, rfl⟩)
        | (go_at_call 93; refine (HA.out _).mono ?_; rintro e w2 ⟨rfl, rfl⟩))
      go_ret
      exact ⟨rfl, HT.out _⟩
    | false =>
      have HA : Hid (∀ u, Calls Tryz.prog 93 #[.int .i64 real, .int .i64 1, .int .i64 8] u fun e w' => e = .returned (.bool false) ∧ w' = u) := hid (fun u => by rw [← hb]; exact among_raw _ _ _ u)
      clear ev hb
      go_enter Tryz.func100, Tryz.ntmps100
      go_wp2_with (first
        | (go_at_call 96; refine (HF.out _).mono ?_; rintro e w2 ⟨rfl, rfl⟩)
        | (go_at_call 93; refine (HA.out _).mono ?_; rintro e w2 ⟨rfl, rfl⟩))
      go_ret
      exact ⟨rfl, HT.out _⟩

set_option maxRecDepth 100000 in
theorem how17 : Calls Tryz.prog 100 #[.agg #[.int .i64 17, .int .i64 d, .int .i64 a, .int .i64 b, .int .i64 l, .int .i64 f, .int .i64 cond, .int .i64 real, .int .i64 size, .int .i64 imm, av]] w fun e w' => e = .returned (.bool (howF 17 cond real size)) ∧ Tn No w w' := by
    have HT : Hid (∀ o, Tn No w (w.alloc o)) := hid (fun o => (Tn.refl No w).alloc o)
    have ev : howF 17 cond real size = (sizeF size) := rfl
    have HF : Hid (∀ u, Calls Tryz.prog 96 #[.int .i64 17] u fun e w' => e = .returned (.int .i64 259) ∧ w' = u) := hid (fun u => fields_raw 17 u)
    rw [ev]
    go_enter Tryz.func100, Tryz.ntmps100
    go_wp2_with (first
      | (go_at_call 96; refine (HF.out _).mono ?_; rintro e w2 ⟨rfl, rfl⟩)
      | (go_at_call 93; refine (among_raw _ _ _ _).mono ?_; rintro e w2 ⟨rfl, rfl⟩)
      | (go_at_call 53; refine (size_raw _ _).mono ?_; rintro e w2 ⟨rfl, rfl⟩))
    go_ret
    exact ⟨rfl, HT.out _⟩

set_option maxRecDepth 100000 in
theorem how18 : Calls Tryz.prog 100 #[.agg #[.int .i64 18, .int .i64 d, .int .i64 a, .int .i64 b, .int .i64 l, .int .i64 f, .int .i64 cond, .int .i64 real, .int .i64 size, .int .i64 imm, av]] w fun e w' => e = .returned (.bool (howF 18 cond real size)) ∧ Tn No w w' := by
    have HT : Hid (∀ o, Tn No w (w.alloc o)) := hid (fun o => (Tn.refl No w).alloc o)
    have ev : howF 18 cond real size = (sizeF size) := rfl
    have HF : Hid (∀ u, Calls Tryz.prog 96 #[.int .i64 18] u fun e w' => e = .returned (.int .i64 262) ∧ w' = u) := hid (fun u => fields_raw 18 u)
    rw [ev]
    go_enter Tryz.func100, Tryz.ntmps100
    go_wp2_with (first
      | (go_at_call 96; refine (HF.out _).mono ?_; rintro e w2 ⟨rfl, rfl⟩)
      | (go_at_call 93; refine (among_raw _ _ _ _).mono ?_; rintro e w2 ⟨rfl, rfl⟩)
      | (go_at_call 53; refine (size_raw _ _).mono ?_; rintro e w2 ⟨rfl, rfl⟩))
    go_ret
    exact ⟨rfl, HT.out _⟩

set_option maxRecDepth 100000 in
theorem how19 : Calls Tryz.prog 100 #[.agg #[.int .i64 19, .int .i64 d, .int .i64 a, .int .i64 b, .int .i64 l, .int .i64 f, .int .i64 cond, .int .i64 real, .int .i64 size, .int .i64 imm, av]] w fun e w' => e = .returned (.bool (howF 19 cond real size)) ∧ Tn No w w' := by
    have HT : Hid (∀ o, Tn No w (w.alloc o)) := hid (fun o => (Tn.refl No w).alloc o)
    have ev : howF 19 cond real size = (true) := rfl
    have HF : Hid (∀ u, Calls Tryz.prog 96 #[.int .i64 19] u fun e w' => e = .returned (.int .i64 8) ∧ w' = u) := hid (fun u => fields_raw 19 u)
    rw [ev]
    go_enter Tryz.func100, Tryz.ntmps100
    go_wp2_with (first
      | (go_at_call 96; refine (HF.out _).mono ?_; rintro e w2 ⟨rfl, rfl⟩)
      | (go_at_call 93; refine (among_raw _ _ _ _).mono ?_; rintro e w2 ⟨rfl, rfl⟩)
      | (go_at_call 53; refine (size_raw _ _).mono ?_; rintro e w2 ⟨rfl, rfl⟩))
    go_ret
    exact ⟨rfl, HT.out _⟩

set_option maxRecDepth 100000 in
theorem how20 : Calls Tryz.prog 100 #[.agg #[.int .i64 20, .int .i64 d, .int .i64 a, .int .i64 b, .int .i64 l, .int .i64 f, .int .i64 cond, .int .i64 real, .int .i64 size, .int .i64 imm, av]] w fun e w' => e = .returned (.bool (howF 20 cond real size)) ∧ Tn No w w' := by
    have HT : Hid (∀ o, Tn No w (w.alloc o)) := hid (fun o => (Tn.refl No w).alloc o)
    have ev : howF 20 cond real size = (true) := rfl
    have HF : Hid (∀ u, Calls Tryz.prog 96 #[.int .i64 20] u fun e w' => e = .returned (.int .i64 8) ∧ w' = u) := hid (fun u => fields_raw 20 u)
    rw [ev]
    go_enter Tryz.func100, Tryz.ntmps100
    go_wp2_with (first
      | (go_at_call 96; refine (HF.out _).mono ?_; rintro e w2 ⟨rfl, rfl⟩)
      | (go_at_call 93; refine (among_raw _ _ _ _).mono ?_; rintro e w2 ⟨rfl, rfl⟩)
      | (go_at_call 53; refine (size_raw _ _).mono ?_; rintro e w2 ⟨rfl, rfl⟩))
    go_ret
    exact ⟨rfl, HT.out _⟩

set_option maxRecDepth 100000 in
theorem how21 : Calls Tryz.prog 100 #[.agg #[.int .i64 21, .int .i64 d, .int .i64 a, .int .i64 b, .int .i64 l, .int .i64 f, .int .i64 cond, .int .i64 real, .int .i64 size, .int .i64 imm, av]] w fun e w' => e = .returned (.bool (howF 21 cond real size)) ∧ Tn No w w' := by
    have HT : Hid (∀ o, Tn No w (w.alloc o)) := hid (fun o => (Tn.refl No w).alloc o)
    have ev : howF 21 cond real size = (decide (1 ≤ cond) && decide (cond ≤ 6)) := rfl
    have HF : Hid (∀ u, Calls Tryz.prog 96 #[.int .i64 21] u fun e w' => e = .returned (.int .i64 78) ∧ w' = u) := hid (fun u => fields_raw 21 u)
    rw [ev]
    cases hb : (decide (1 ≤ cond) && decide (cond ≤ 6)) with
    | true =>
      have HA : Hid (∀ u, Calls Tryz.prog 93 #[.int .i64 cond, .int .i64 1, .int .i64 6] u fun e w' => e = .returned (.bool true) ∧ w' = u) := hid (fun u => by rw [← hb]; exact among_raw _ _ _ u)
      clear ev hb
      go_enter Tryz.func100, Tryz.ntmps100
      go_wp2_with (first
        | (go_at_call 96; refine (HF.out _).mono ?_; rintro e w2 ⟨rfl, rfl⟩)
        | (go_at_call 93; refine (HA.out _).mono ?_; rintro e w2 ⟨rfl, rfl⟩))
      go_ret
      exact ⟨rfl, HT.out _⟩
    | false =>
      have HA : Hid (∀ u, Calls Tryz.prog 93 #[.int .i64 cond, .int .i64 1, .int .i64 6] u fun e w' => e = .returned (.bool false) ∧ w' = u) := hid (fun u => by rw [← hb]; exact among_raw _ _ _ u)
      clear ev hb
      go_enter Tryz.func100, Tryz.ntmps100
      go_wp2_with (first
        | (go_at_call 96; refine (HF.out _).mono ?_; rintro e w2 ⟨rfl, rfl⟩)
        | (go_at_call 93; refine (HA.out _).mono ?_; rintro e w2 ⟨rfl, rfl⟩))
      go_ret
      exact ⟨rfl, HT.out _⟩

set_option maxRecDepth 100000 in
theorem how22 : Calls Tryz.prog 100 #[.agg #[.int .i64 22, .int .i64 d, .int .i64 a, .int .i64 b, .int .i64 l, .int .i64 f, .int .i64 cond, .int .i64 real, .int .i64 size, .int .i64 imm, av]] w fun e w' => e = .returned (.bool (howF 22 cond real size)) ∧ Tn No w w' := by
    have HT : Hid (∀ o, Tn No w (w.alloc o)) := hid (fun o => (Tn.refl No w).alloc o)
    have ev : howF 22 cond real size = (true) := rfl
    have HF : Hid (∀ u, Calls Tryz.prog 96 #[.int .i64 22] u fun e w' => e = .returned (.int .i64 49) ∧ w' = u) := hid (fun u => fields_raw 22 u)
    rw [ev]
    go_enter Tryz.func100, Tryz.ntmps100
    go_wp2_with (first
      | (go_at_call 96; refine (HF.out _).mono ?_; rintro e w2 ⟨rfl, rfl⟩)
      | (go_at_call 93; refine (among_raw _ _ _ _).mono ?_; rintro e w2 ⟨rfl, rfl⟩)
      | (go_at_call 53; refine (size_raw _ _).mono ?_; rintro e w2 ⟨rfl, rfl⟩))
    go_ret
    exact ⟨rfl, HT.out _⟩

set_option maxRecDepth 100000 in
theorem how23 : Calls Tryz.prog 100 #[.agg #[.int .i64 23, .int .i64 d, .int .i64 a, .int .i64 b, .int .i64 l, .int .i64 f, .int .i64 cond, .int .i64 real, .int .i64 size, .int .i64 imm, av]] w fun e w' => e = .returned (.bool (howF 23 cond real size)) ∧ Tn No w w' := by
    have HT : Hid (∀ o, Tn No w (w.alloc o)) := hid (fun o => (Tn.refl No w).alloc o)
    have ev : howF 23 cond real size = (true) := rfl
    have HF : Hid (∀ u, Calls Tryz.prog 96 #[.int .i64 23] u fun e w' => e = .returned (.int .i64 35) ∧ w' = u) := hid (fun u => fields_raw 23 u)
    rw [ev]
    go_enter Tryz.func100, Tryz.ntmps100
    go_wp2_with (first
      | (go_at_call 96; refine (HF.out _).mono ?_; rintro e w2 ⟨rfl, rfl⟩)
      | (go_at_call 93; refine (among_raw _ _ _ _).mono ?_; rintro e w2 ⟨rfl, rfl⟩)
      | (go_at_call 53; refine (size_raw _ _).mono ?_; rintro e w2 ⟨rfl, rfl⟩))
    go_ret
    exact ⟨rfl, HT.out _⟩

set_option maxRecDepth 100000 in
theorem how24 : Calls Tryz.prog 100 #[.agg #[.int .i64 24, .int .i64 d, .int .i64 a, .int .i64 b, .int .i64 l, .int .i64 f, .int .i64 cond, .int .i64 real, .int .i64 size, .int .i64 imm, av]] w fun e w' => e = .returned (.bool (howF 24 cond real size)) ∧ Tn No w w' := by
    have HT : Hid (∀ o, Tn No w (w.alloc o)) := hid (fun o => (Tn.refl No w).alloc o)
    have ev : howF 24 cond real size = (true) := rfl
    have HF : Hid (∀ u, Calls Tryz.prog 96 #[.int .i64 24] u fun e w' => e = .returned (.int .i64 48) ∧ w' = u) := hid (fun u => fields_raw 24 u)
    rw [ev]
    go_enter Tryz.func100, Tryz.ntmps100
    go_wp2_with (first
      | (go_at_call 96; refine (HF.out _).mono ?_; rintro e w2 ⟨rfl, rfl⟩)
      | (go_at_call 93; refine (among_raw _ _ _ _).mono ?_; rintro e w2 ⟨rfl, rfl⟩)
      | (go_at_call 53; refine (size_raw _ _).mono ?_; rintro e w2 ⟨rfl, rfl⟩))
    go_ret
    exact ⟨rfl, HT.out _⟩

set_option maxRecDepth 100000 in
theorem how25 : Calls Tryz.prog 100 #[.agg #[.int .i64 25, .int .i64 d, .int .i64 a, .int .i64 b, .int .i64 l, .int .i64 f, .int .i64 cond, .int .i64 real, .int .i64 size, .int .i64 imm, av]] w fun e w' => e = .returned (.bool (howF 25 cond real size)) ∧ Tn No w w' := by
    have HT : Hid (∀ o, Tn No w (w.alloc o)) := hid (fun o => (Tn.refl No w).alloc o)
    have ev : howF 25 cond real size = (true) := rfl
    have HF : Hid (∀ u, Calls Tryz.prog 96 #[.int .i64 25] u fun e w' => e = .returned (.int .i64 34) ∧ w' = u) := hid (fun u => fields_raw 25 u)
    rw [ev]
    go_enter Tryz.func100, Tryz.ntmps100
    go_wp2_with (first
      | (go_at_call 96; refine (HF.out _).mono ?_; rintro e w2 ⟨rfl, rfl⟩)
      | (go_at_call 93; refine (among_raw _ _ _ _).mono ?_; rintro e w2 ⟨rfl, rfl⟩)
      | (go_at_call 53; refine (size_raw _ _).mono ?_; rintro e w2 ⟨rfl, rfl⟩))
    go_ret
    exact ⟨rfl, HT.out _⟩

set_option maxRecDepth 100000 in
theorem how26 : Calls Tryz.prog 100 #[.agg #[.int .i64 26, .int .i64 d, .int .i64 a, .int .i64 b, .int .i64 l, .int .i64 f, .int .i64 cond, .int .i64 real, .int .i64 size, .int .i64 imm, av]] w fun e w' => e = .returned (.bool (howF 26 cond real size)) ∧ Tn No w w' := by
    have HT : Hid (∀ o, Tn No w (w.alloc o)) := hid (fun o => (Tn.refl No w).alloc o)
    have ev : howF 26 cond real size = (true) := rfl
    have HF : Hid (∀ u, Calls Tryz.prog 96 #[.int .i64 26] u fun e w' => e = .returned (.int .i64 2) ∧ w' = u) := hid (fun u => fields_raw 26 u)
    rw [ev]
    go_enter Tryz.func100, Tryz.ntmps100
    go_wp2_with (first
      | (go_at_call 96; refine (HF.out _).mono ?_; rintro e w2 ⟨rfl, rfl⟩)
      | (go_at_call 93; refine (among_raw _ _ _ _).mono ?_; rintro e w2 ⟨rfl, rfl⟩)
      | (go_at_call 53; refine (size_raw _ _).mono ?_; rintro e w2 ⟨rfl, rfl⟩))
    go_ret
    exact ⟨rfl, HT.out _⟩

set_option maxRecDepth 100000 in
theorem how27 : Calls Tryz.prog 100 #[.agg #[.int .i64 27, .int .i64 d, .int .i64 a, .int .i64 b, .int .i64 l, .int .i64 f, .int .i64 cond, .int .i64 real, .int .i64 size, .int .i64 imm, av]] w fun e w' => e = .returned (.bool (howF 27 cond real size)) ∧ Tn No w w' := by
    have HT : Hid (∀ o, Tn No w (w.alloc o)) := hid (fun o => (Tn.refl No w).alloc o)
    have ev : howF 27 cond real size = (true) := rfl
    have HF : Hid (∀ u, Calls Tryz.prog 96 #[.int .i64 27] u fun e w' => e = .returned (.int .i64 1) ∧ w' = u) := hid (fun u => fields_raw 27 u)
    rw [ev]
    go_enter Tryz.func100, Tryz.ntmps100
    go_wp2_with (first
      | (go_at_call 96; refine (HF.out _).mono ?_; rintro e w2 ⟨rfl, rfl⟩)
      | (go_at_call 93; refine (among_raw _ _ _ _).mono ?_; rintro e w2 ⟨rfl, rfl⟩)
      | (go_at_call 53; refine (size_raw _ _).mono ?_; rintro e w2 ⟨rfl, rfl⟩))
    go_ret
    exact ⟨rfl, HT.out _⟩

set_option maxRecDepth 100000 in
theorem how28 : Calls Tryz.prog 100 #[.agg #[.int .i64 28, .int .i64 d, .int .i64 a, .int .i64 b, .int .i64 l, .int .i64 f, .int .i64 cond, .int .i64 real, .int .i64 size, .int .i64 imm, av]] w fun e w' => e = .returned (.bool (howF 28 cond real size)) ∧ Tn No w w' := by
    have HT : Hid (∀ o, Tn No w (w.alloc o)) := hid (fun o => (Tn.refl No w).alloc o)
    have ev : howF 28 cond real size = (true) := rfl
    have HF : Hid (∀ u, Calls Tryz.prog 96 #[.int .i64 28] u fun e w' => e = .returned (.int .i64 17) ∧ w' = u) := hid (fun u => fields_raw 28 u)
    rw [ev]
    go_enter Tryz.func100, Tryz.ntmps100
    go_wp2_with (first
      | (go_at_call 96; refine (HF.out _).mono ?_; rintro e w2 ⟨rfl, rfl⟩)
      | (go_at_call 93; refine (among_raw _ _ _ _).mono ?_; rintro e w2 ⟨rfl, rfl⟩)
      | (go_at_call 53; refine (size_raw _ _).mono ?_; rintro e w2 ⟨rfl, rfl⟩))
    go_ret
    exact ⟨rfl, HT.out _⟩

set_option maxRecDepth 100000 in
theorem how29 : Calls Tryz.prog 100 #[.agg #[.int .i64 29, .int .i64 d, .int .i64 a, .int .i64 b, .int .i64 l, .int .i64 f, .int .i64 cond, .int .i64 real, .int .i64 size, .int .i64 imm, av]] w fun e w' => e = .returned (.bool (howF 29 cond real size)) ∧ Tn No w w' := by
    have HT : Hid (∀ o, Tn No w (w.alloc o)) := hid (fun o => (Tn.refl No w).alloc o)
    have ev : howF 29 cond real size = (true) := rfl
    have HF : Hid (∀ u, Calls Tryz.prog 96 #[.int .i64 29] u fun e w' => e = .returned (.int .i64 1) ∧ w' = u) := hid (fun u => fields_raw 29 u)
    rw [ev]
    go_enter Tryz.func100, Tryz.ntmps100
    go_wp2_with (first
      | (go_at_call 96; refine (HF.out _).mono ?_; rintro e w2 ⟨rfl, rfl⟩)
      | (go_at_call 93; refine (among_raw _ _ _ _).mono ?_; rintro e w2 ⟨rfl, rfl⟩)
      | (go_at_call 53; refine (size_raw _ _).mono ?_; rintro e w2 ⟨rfl, rfl⟩))
    go_ret
    exact ⟨rfl, HT.out _⟩

set_option maxRecDepth 100000 in
theorem how30 : Calls Tryz.prog 100 #[.agg #[.int .i64 30, .int .i64 d, .int .i64 a, .int .i64 b, .int .i64 l, .int .i64 f, .int .i64 cond, .int .i64 real, .int .i64 size, .int .i64 imm, av]] w fun e w' => e = .returned (.bool (howF 30 cond real size)) ∧ Tn No w w' := by
    have HT : Hid (∀ o, Tn No w (w.alloc o)) := hid (fun o => (Tn.refl No w).alloc o)
    have ev : howF 30 cond real size = (true) := rfl
    have HF : Hid (∀ u, Calls Tryz.prog 96 #[.int .i64 30] u fun e w' => e = .returned (.int .i64 33) ∧ w' = u) := hid (fun u => fields_raw 30 u)
    rw [ev]
    go_enter Tryz.func100, Tryz.ntmps100
    go_wp2_with (first
      | (go_at_call 96; refine (HF.out _).mono ?_; rintro e w2 ⟨rfl, rfl⟩)
      | (go_at_call 93; refine (among_raw _ _ _ _).mono ?_; rintro e w2 ⟨rfl, rfl⟩)
      | (go_at_call 53; refine (size_raw _ _).mono ?_; rintro e w2 ⟨rfl, rfl⟩))
    go_ret
    exact ⟨rfl, HT.out _⟩

set_option maxRecDepth 100000 in
theorem how31 : Calls Tryz.prog 100 #[.agg #[.int .i64 31, .int .i64 d, .int .i64 a, .int .i64 b, .int .i64 l, .int .i64 f, .int .i64 cond, .int .i64 real, .int .i64 size, .int .i64 imm, av]] w fun e w' => e = .returned (.bool (howF 31 cond real size)) ∧ Tn No w w' := by
    have HT : Hid (∀ o, Tn No w (w.alloc o)) := hid (fun o => (Tn.refl No w).alloc o)
    have ev : howF 31 cond real size = (true) := rfl
    have HF : Hid (∀ u, Calls Tryz.prog 96 #[.int .i64 31] u fun e w' => e = .returned (.int .i64 1) ∧ w' = u) := hid (fun u => fields_raw 31 u)
    rw [ev]
    go_enter Tryz.func100, Tryz.ntmps100
    go_wp2_with (first
      | (go_at_call 96; refine (HF.out _).mono ?_; rintro e w2 ⟨rfl, rfl⟩)
      | (go_at_call 93; refine (among_raw _ _ _ _).mono ?_; rintro e w2 ⟨rfl, rfl⟩)
      | (go_at_call 53; refine (size_raw _ _).mono ?_; rintro e w2 ⟨rfl, rfl⟩))
    go_ret
    exact ⟨rfl, HT.out _⟩

set_option maxRecDepth 100000 in
theorem how32 : Calls Tryz.prog 100 #[.agg #[.int .i64 32, .int .i64 d, .int .i64 a, .int .i64 b, .int .i64 l, .int .i64 f, .int .i64 cond, .int .i64 real, .int .i64 size, .int .i64 imm, av]] w fun e w' => e = .returned (.bool (howF 32 cond real size)) ∧ Tn No w w' := by
    have HT : Hid (∀ o, Tn No w (w.alloc o)) := hid (fun o => (Tn.refl No w).alloc o)
    have ev : howF 32 cond real size = (true) := rfl
    have HF : Hid (∀ u, Calls Tryz.prog 96 #[.int .i64 32] u fun e w' => e = .returned (.int .i64 2) ∧ w' = u) := hid (fun u => fields_raw 32 u)
    rw [ev]
    go_enter Tryz.func100, Tryz.ntmps100
    go_wp2_with (first
      | (go_at_call 96; refine (HF.out _).mono ?_; rintro e w2 ⟨rfl, rfl⟩)
      | (go_at_call 93; refine (among_raw _ _ _ _).mono ?_; rintro e w2 ⟨rfl, rfl⟩)
      | (go_at_call 53; refine (size_raw _ _).mono ?_; rintro e w2 ⟨rfl, rfl⟩))
    go_ret
    exact ⟨rfl, HT.out _⟩

set_option maxRecDepth 100000 in
theorem how0 (hk : k < 1 ∨ 32 < k) : Calls Tryz.prog 100 #[.agg #[.int .i64 k, .int .i64 d, .int .i64 a, .int .i64 b, .int .i64 l, .int .i64 f, .int .i64 cond, .int .i64 real, .int .i64 size, .int .i64 imm, av]] w fun e w' => e = .returned (.bool (howF k cond real size)) ∧ Tn No w w' := by
    have HT : Hid (∀ o, Tn No w (w.alloc o)) := hid (fun o => (Tn.refl No w).alloc o)
    have ev : howF k cond real size = true := by unfold howF; rw [if_neg (by omega), if_neg (by omega), if_neg (by omega)]
    have HF : Hid (∀ u, Calls Tryz.prog 96 #[.int .i64 k] u fun e w' => e = .returned (.int .i64 0) ∧ w' = u) := hid (fun u => by have := fields_raw k u; rw [fieldsF_out hk] at this; exact this)
    rw [ev]
    go_enter Tryz.func100, Tryz.ntmps100
    go_wp2_with (first
      | (go_at_call 96; refine (HF.out _).mono ?_; rintro e w2 ⟨rfl, rfl⟩)
      | (go_at_call 93; refine (among_raw _ _ _ _).mono ?_; rintro e w2 ⟨rfl, rfl⟩)
      | (go_at_call 53; refine (size_raw _ _).mono ?_; rintro e w2 ⟨rfl, rfl⟩))
    go_ret
    exact ⟨rfl, HT.out _⟩

theorem how_raw : Calls Tryz.prog 100 #[.agg #[.int .i64 k, .int .i64 d, .int .i64 a, .int .i64 b, .int .i64 l, .int .i64 f, .int .i64 cond, .int .i64 real, .int .i64 size, .int .i64 imm, av]] w fun e w' => e = .returned (.bool (howF k cond real size)) ∧ Tn No w w' := by
  by_cases hk : 1 ≤ k ∧ k ≤ 32
  · have cases32 : k = 1 ∨ k = 2 ∨ k = 3 ∨ k = 4 ∨ k = 5 ∨ k = 6 ∨ k = 7 ∨ k = 8 ∨ k = 9 ∨ k = 10 ∨ k = 11 ∨ k = 12 ∨ k = 13 ∨ k = 14 ∨ k = 15 ∨ k = 16 ∨ k = 17 ∨ k = 18 ∨ k = 19 ∨ k = 20 ∨ k = 21 ∨ k = 22 ∨ k = 23 ∨ k = 24 ∨ k = 25 ∨ k = 26 ∨ k = 27 ∨ k = 28 ∨ k = 29 ∨ k = 30 ∨ k = 31 ∨ k = 32 := by omega
    rcases cases32 with rfl | rfl | rfl | rfl | rfl | rfl | rfl | rfl | rfl | rfl | rfl | rfl | rfl | rfl | rfl | rfl | rfl | rfl | rfl | rfl | rfl | rfl | rfl | rfl | rfl | rfl | rfl | rfl | rfl | rfl | rfl | rfl
    · exact how1 d a b l f cond real size imm av w
    · exact how2 d a b l f cond real size imm av w
    · exact how3 d a b l f cond real size imm av w
    · exact how4 d a b l f cond real size imm av w
    · exact how5 d a b l f cond real size imm av w
    · exact how6 d a b l f cond real size imm av w
    · exact how7 d a b l f cond real size imm av w
    · exact how8 d a b l f cond real size imm av w
    · exact how9 d a b l f cond real size imm av w
    · exact how10 d a b l f cond real size imm av w
    · exact how11 d a b l f cond real size imm av w
    · exact how12 d a b l f cond real size imm av w
    · exact how13 d a b l f cond real size imm av w
    · exact how14 d a b l f cond real size imm av w
    · exact how15 d a b l f cond real size imm av w
    · exact how16 d a b l f cond real size imm av w
    · exact how17 d a b l f cond real size imm av w
    · exact how18 d a b l f cond real size imm av w
    · exact how19 d a b l f cond real size imm av w
    · exact how20 d a b l f cond real size imm av w
    · exact how21 d a b l f cond real size imm av w
    · exact how22 d a b l f cond real size imm av w
    · exact how23 d a b l f cond real size imm av w
    · exact how24 d a b l f cond real size imm av w
    · exact how25 d a b l f cond real size imm av w
    · exact how26 d a b l f cond real size imm av w
    · exact how27 d a b l f cond real size imm av w
    · exact how28 d a b l f cond real size imm av w
    · exact how29 d a b l f cond real size imm av w
    · exact how30 d a b l f cond real size imm av w
    · exact how31 d a b l f cond real size imm av w
    · exact how32 d a b l f cond real size imm av w
  · exact how0 k d a b l f cond real size imm av w (by omega)
end
end Go.Proofs.YtoidddfpekbliaaGreat
