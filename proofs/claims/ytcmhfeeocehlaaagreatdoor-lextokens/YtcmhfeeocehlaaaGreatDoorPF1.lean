/-
  strconv.ParseFloat: the small functions that reckon on words.
-/
import Derived.Test.YtcmhfeeocehlaaaGreatDoorRB
namespace Go.Proofs.YtcmhfeeocehlaaaGreatDoor
set_option linter.unusedSimpArgs false
set_option linter.unusedVariables false
open Go.RowKit
attribute [local go_sem ↓] Go.wp_at_zero Go.wp_at_succ

def b2 (b : Bool) : Int := cond b 1 0
theorem b2_01 (b : Bool) : 0 ≤ b2 b ∧ b2 b ≤ 1 := by cases b <;> decide
theorem bool2u_raw (b : Bool) (w : World) : Calls Tryz.prog 125 #[.bool b] w fun e w' => e = .returned (.int .u64 (b2 b)) ∧ w' = w := by
  go_enter Tryz.func125, Tryz.ntmps125
  cases b
  all_goals
    go_wp2
    go_ret
    exact ⟨rfl, rfl⟩
theorem log2_ex (x : Int) : ∃ v, ∀ w, Calls Tryz.prog 143 #[.int .i64 x] w fun e w' => e = .returned (.int .i64 v) ∧ w' = w := by
  apply Exists.intro
  intro w
  go_enter Tryz.func143, Tryz.ntmps143
  go_wp2
  go_ret
  exact ⟨rfl, rfl⟩
theorem unmin_ex (x : Int) : ∃ v, ∀ w, Calls Tryz.prog 147 #[.int .u64 x] w fun e w' => e = .returned (.int .u64 v) ∧ w' = w := by
  apply Exists.intro
  intro w
  go_enter Tryz.func147, Tryz.ntmps147
  go_wp2
  go_ret
  exact ⟨rfl, rfl⟩
theorem round_ex (x : Int) : ∃ v, ∀ w, Calls Tryz.prog 149 #[.int .u64 x] w fun e w' => e = .returned (.int .u64 v) ∧ w' = w := by
  apply Exists.intro
  intro w
  go_enter Tryz.func149, Tryz.ntmps149
  go_wp2
  go_ret
  exact ⟨rfl, rfl⟩
theorem bool2i_raw (b : Bool) (w : World) : Calls Tryz.prog 146 #[.bool b] w fun e w' => e = .returned (.int .i64 (b2 b)) ∧ w' = w := by
  go_enter Tryz.func146, Tryz.ntmps146
  cases b
  all_goals
    go_wp2
    go_ret
    exact ⟨rfl, rfl⟩
theorem ffb_run (x : Int) (w : World) : (callFunc 126 #[.int .u64 x]).run Tryz.prog w = .ok (.value (.float .f64 x.toNat)) w := by
  rw [run_callFunc_extern Tryz.func126 (by kernel_rfl) (by kernel_rfl) (by kernel_rfl) (e := Extern.MathFloatBits.float64frombits) (by kernel_rfl)]
  rfl
theorem fbits_run (x : Nat) (w : World) : (callFunc 67 #[.float .f64 x]).run Tryz.prog w = .ok (.value (.int .u64 x)) w := by
  rw [run_callFunc_extern Tryz.func67 (by kernel_rfl) (by kernel_rfl) (by kernel_rfl) (e := Extern.MathFloatBits.float64bits) (by kernel_rfl)]
  rfl
attribute [local go_sem] ffb_run
set_option maxRecDepth 100000 in
set_option maxHeartbeats 4000000 in
theorem pack_ex (m e : Int) : ∃ v er, (er = Value.nilIface ∨ er = .iface 98 (.int .i64 1)) ∧ ∀ w, Calls Tryz.prog 152 #[.int .u64 m, .int .i64 e] w fun e w' => e = .returned (.tuple #[.float .f64 v, er]) ∧ w' = w := by
  by_cases h1 : bits .and .u64 m 4503599627370496 = 0
  · apply Exists.intro
    apply Exists.intro
    refine ⟨Or.inl rfl, ?_⟩
    intro w
    go_enter Tryz.func152, Tryz.ntmps152
    go_wp2
    go_ret2
    exact ⟨rfl, rfl⟩
  · by_cases h2 : 972 ≤ e
    · apply Exists.intro
      apply Exists.intro
      refine ⟨Or.inr rfl, ?_⟩
      intro w
      go_enter Tryz.func152, Tryz.ntmps152
      go_wp2
      go_ret2
      exact ⟨rfl, rfl⟩
    · rw [Int.not_le] at h2
      apply Exists.intro
      apply Exists.intro
      refine ⟨Or.inl rfl, ?_⟩
      intro w
      go_enter Tryz.func152, Tryz.ntmps152
      go_wp2
      go_ret2
      exact ⟨rfl, rfl⟩
end Go.Proofs.YtcmhfeeocehlaaaGreatDoor
