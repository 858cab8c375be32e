/-
  word: an instruction's Imm may be. Made by gen_wimm.py.
-/
import Derived.Test.YtoidddfpekbliaaGreatWJ09
namespace Go.Proofs.YtoidddfpekbliaaGreat
set_option linter.unusedSimpArgs false
set_option linter.unusedVariables false
open Go.RowKit
attribute [local go_sem ↓] Go.wp_at_zero Go.wp_at_succ

section
variable (k d a b l f cond real size imm : Int) (av : Value) (args : List Int) (fv : Value) (dd : Option Addr) (dn dc : Nat) (zero : Int) (name : ByteArray) (params regs slots : Int) (cv : Value) (w : World)

set_option maxHeartbeats 1000000 in
set_option maxRecDepth 100000 in
theorem imm_17 (hi : i64ok imm) (hz : 0 ≤ zero) (hz2 : (dn : Int) + zero ≤ 268435456) (hs : 0 ≤ slots) (hs2 : slots ≤ 1048576) :
    Calls Tryz.prog 98 #[.agg #[fv, .slice dd dn dc, .int .i64 zero], .agg #[.string name, .int .i64 params, .int .i64 regs, .int .i64 slots, cv], .agg #[.int .i64 17, .int .i64 d, .int .i64 a, .int .i64 b, .int .i64 l, .int .i64 f, .int .i64 cond, .int .i64 real, .int .i64 size, .int .i64 imm, av]] w fun e w' => e = .returned (.bool (immF ((dn : Int) + zero) slots ⟨17, d, a, b, l, f, cond, real, size, imm, av, args⟩)) ∧ Tn No w w' := by
  have hi1 := hi.1
  have hi2 := hi.2
  clear hi
  have hdn : 0 ≤ (dn : Int) := by omega
  have HT : Hid (∀ A B C, Tn No w (((w.alloc A).alloc B).alloc C)) := hid (fun A B C => by first | exact (((Tn.refl No w).alloc A).alloc B).alloc C | exact ((((Tn.refl No w).alloc A).alloc B).alloc C).drewN _)
  by_cases h1 : -2147483648 ≤ imm
  · by_cases h2 : imm ≤ 2147483647
    · have HV : Hid ((immF ((dn : Int) + zero) slots ⟨17, d, a, b, l, f, cond, real, size, imm, av, args⟩) = true) := hid (by unfold immF; simp; omega)
      go_enter Tryz.func98, Tryz.ntmps98
      go_wp2_with fail
      go_ret
      exact ⟨ret_bool (by rw [HV.out] <;> first | rfl | (simp; omega)), HT.out _ _ _⟩
    · have h2' : 2147483647 < imm := by omega
      have HV : Hid ((immF ((dn : Int) + zero) slots ⟨17, d, a, b, l, f, cond, real, size, imm, av, args⟩) = false) := hid (by unfold immF; simp; omega)
      clear h2
      go_enter Tryz.func98, Tryz.ntmps98
      go_wp2_with fail
      go_ret
      exact ⟨ret_bool (by rw [HV.out] <;> first | rfl | (simp; omega)), HT.out _ _ _⟩
  · have h1' : imm < -2147483648 := by omega
    have HV : Hid ((immF ((dn : Int) + zero) slots ⟨17, d, a, b, l, f, cond, real, size, imm, av, args⟩) = false) := hid (by unfold immF; simp; omega)
    clear h1
    go_enter Tryz.func98, Tryz.ntmps98
    go_wp2_with fail
    go_ret
    exact ⟨ret_bool (by rw [HV.out] <;> first | rfl | (simp; omega)), HT.out _ _ _⟩

set_option maxHeartbeats 1000000 in
set_option maxRecDepth 100000 in
theorem imm_18 (hi : i64ok imm) (hz : 0 ≤ zero) (hz2 : (dn : Int) + zero ≤ 268435456) (hs : 0 ≤ slots) (hs2 : slots ≤ 1048576) :
    Calls Tryz.prog 98 #[.agg #[fv, .slice dd dn dc, .int .i64 zero], .agg #[.string name, .int .i64 params, .int .i64 regs, .int .i64 slots, cv], .agg #[.int .i64 18, .int .i64 d, .int .i64 a, .int .i64 b, .int .i64 l, .int .i64 f, .int .i64 cond, .int .i64 real, .int .i64 size, .int .i64 imm, av]] w fun e w' => e = .returned (.bool (immF ((dn : Int) + zero) slots ⟨18, d, a, b, l, f, cond, real, size, imm, av, args⟩)) ∧ Tn No w w' := by
  have hi1 := hi.1
  have hi2 := hi.2
  clear hi
  have hdn : 0 ≤ (dn : Int) := by omega
  have HT : Hid (∀ A B C, Tn No w (((w.alloc A).alloc B).alloc C)) := hid (fun A B C => by first | exact (((Tn.refl No w).alloc A).alloc B).alloc C | exact ((((Tn.refl No w).alloc A).alloc B).alloc C).drewN _)
  by_cases h1 : -2147483648 ≤ imm
  · by_cases h2 : imm ≤ 2147483647
    · have HV : Hid ((immF ((dn : Int) + zero) slots ⟨18, d, a, b, l, f, cond, real, size, imm, av, args⟩) = true) := hid (by unfold immF; simp; omega)
      go_enter Tryz.func98, Tryz.ntmps98
      go_wp2_with fail
      go_ret
      exact ⟨ret_bool (by rw [HV.out] <;> first | rfl | (simp; omega)), HT.out _ _ _⟩
    · have h2' : 2147483647 < imm := by omega
      have HV : Hid ((immF ((dn : Int) + zero) slots ⟨18, d, a, b, l, f, cond, real, size, imm, av, args⟩) = false) := hid (by unfold immF; simp; omega)
      clear h2
      go_enter Tryz.func98, Tryz.ntmps98
      go_wp2_with fail
      go_ret
      exact ⟨ret_bool (by rw [HV.out] <;> first | rfl | (simp; omega)), HT.out _ _ _⟩
  · have h1' : imm < -2147483648 := by omega
    have HV : Hid ((immF ((dn : Int) + zero) slots ⟨18, d, a, b, l, f, cond, real, size, imm, av, args⟩) = false) := hid (by unfold immF; simp; omega)
    clear h1
    go_enter Tryz.func98, Tryz.ntmps98
    go_wp2_with fail
    go_ret
    exact ⟨ret_bool (by rw [HV.out] <;> first | rfl | (simp; omega)), HT.out _ _ _⟩

set_option maxHeartbeats 1000000 in
set_option maxRecDepth 100000 in
theorem imm_27 (hi : i64ok imm) (hz : 0 ≤ zero) (hz2 : (dn : Int) + zero ≤ 268435456) (hs : 0 ≤ slots) (hs2 : slots ≤ 1048576) :
    Calls Tryz.prog 98 #[.agg #[fv, .slice dd dn dc, .int .i64 zero], .agg #[.string name, .int .i64 params, .int .i64 regs, .int .i64 slots, cv], .agg #[.int .i64 27, .int .i64 d, .int .i64 a, .int .i64 b, .int .i64 l, .int .i64 f, .int .i64 cond, .int .i64 real, .int .i64 size, .int .i64 imm, av]] w fun e w' => e = .returned (.bool (immF ((dn : Int) + zero) slots ⟨27, d, a, b, l, f, cond, real, size, imm, av, args⟩)) ∧ Tn No w w' := by
  have hi1 := hi.1
  have hi2 := hi.2
  clear hi
  have hdn : 0 ≤ (dn : Int) := by omega
  have HT : Hid (∀ A B C n, Tn No w ((((w.alloc A).alloc B).alloc C).drewN n)) := hid (fun A B C n => by first | exact (((Tn.refl No w).alloc A).alloc B).alloc C | exact ((((Tn.refl No w).alloc A).alloc B).alloc C).drewN _)
  by_cases h1 : 0 ≤ imm
  · by_cases h2 : imm ≤ (dn : Int) + zero
    · have HV : Hid ((immF ((dn : Int) + zero) slots ⟨27, d, a, b, l, f, cond, real, size, imm, av, args⟩) = true) := hid (by unfold immF; simp; omega)
      go_enter Tryz.func98, Tryz.ntmps98
      go_wp2_with fail
      go_quiet (fail)
      go_wp2_with fail
      go_ret
      exact ⟨ret_bool (by rw [HV.out] <;> first | rfl | (simp; omega)), HT.out _ _ _ _⟩
    · have h2' : (dn : Int) + zero < imm := by omega
      have HV : Hid ((immF ((dn : Int) + zero) slots ⟨27, d, a, b, l, f, cond, real, size, imm, av, args⟩) = false) := hid (by unfold immF; simp; omega)
      clear h2
      go_enter Tryz.func98, Tryz.ntmps98
      go_wp2_with fail
      go_quiet (fail)
      go_wp2_with fail
      go_ret
      exact ⟨ret_bool (by rw [HV.out] <;> first | rfl | (simp; omega)), HT.out _ _ _ _⟩
  · have h1' : imm < 0 := by omega
    have HV : Hid ((immF ((dn : Int) + zero) slots ⟨27, d, a, b, l, f, cond, real, size, imm, av, args⟩) = false) := hid (by unfold immF; simp; omega)
    clear h1
    go_enter Tryz.func98, Tryz.ntmps98
    go_wp2_with fail
    go_quiet (fail)
    go_wp2_with fail
    go_ret
    exact ⟨ret_bool (by rw [HV.out] <;> first | rfl | (simp; omega)), HT.out _ _ _ _⟩

set_option maxHeartbeats 1000000 in
set_option maxRecDepth 100000 in
theorem imm_31 (hi : i64ok imm) (hz : 0 ≤ zero) (hz2 : (dn : Int) + zero ≤ 268435456) (hs : 0 ≤ slots) (hs2 : slots ≤ 1048576) :
    Calls Tryz.prog 98 #[.agg #[fv, .slice dd dn dc, .int .i64 zero], .agg #[.string name, .int .i64 params, .int .i64 regs, .int .i64 slots, cv], .agg #[.int .i64 31, .int .i64 d, .int .i64 a, .int .i64 b, .int .i64 l, .int .i64 f, .int .i64 cond, .int .i64 real, .int .i64 size, .int .i64 imm, av]] w fun e w' => e = .returned (.bool (immF ((dn : Int) + zero) slots ⟨31, d, a, b, l, f, cond, real, size, imm, av, args⟩)) ∧ Tn No w w' := by
  have hi1 := hi.1
  have hi2 := hi.2
  clear hi
  have hdn : 0 ≤ (dn : Int) := by omega
  have HT : Hid (∀ A B C n, Tn No w ((((w.alloc A).alloc B).alloc C).drewN n)) := hid (fun A B C n => by first | exact (((Tn.refl No w).alloc A).alloc B).alloc C | exact ((((Tn.refl No w).alloc A).alloc B).alloc C).drewN _)
  by_cases h1 : 0 ≤ imm
  · by_cases h2 : imm ≤ slots - 1
    · have HV : Hid ((immF ((dn : Int) + zero) slots ⟨31, d, a, b, l, f, cond, real, size, imm, av, args⟩) = true) := hid (by unfold immF; simp; omega)
      go_enter Tryz.func98, Tryz.ntmps98
      go_wp2_with fail
      go_quiet (fail)
      go_wp2_with fail
      go_ret
      exact ⟨ret_bool (by rw [HV.out] <;> first | rfl | (simp; omega)), HT.out _ _ _ _⟩
    · have h2' : slots - 1 < imm := by omega
      have HV : Hid ((immF ((dn : Int) + zero) slots ⟨31, d, a, b, l, f, cond, real, size, imm, av, args⟩) = false) := hid (by unfold immF; simp; omega)
      clear h2
      go_enter Tryz.func98, Tryz.ntmps98
      go_wp2_with fail
      go_quiet (fail)
      go_wp2_with fail
      go_ret
      exact ⟨ret_bool (by rw [HV.out] <;> first | rfl | (simp; omega)), HT.out _ _ _ _⟩
  · have h1' : imm < 0 := by omega
    have HV : Hid ((immF ((dn : Int) + zero) slots ⟨31, d, a, b, l, f, cond, real, size, imm, av, args⟩) = false) := hid (by unfold immF; simp; omega)
    clear h1
    go_enter Tryz.func98, Tryz.ntmps98
    go_wp2_with fail
    go_quiet (fail)
    go_wp2_with fail
    go_ret
    exact ⟨ret_bool (by rw [HV.out] <;> first | rfl | (simp; omega)), HT.out _ _ _ _⟩

set_option maxHeartbeats 1000000 in
set_option maxRecDepth 100000 in
theorem imm_32 (hi : i64ok imm) (hz : 0 ≤ zero) (hz2 : (dn : Int) + zero ≤ 268435456) (hs : 0 ≤ slots) (hs2 : slots ≤ 1048576) :
    Calls Tryz.prog 98 #[.agg #[fv, .slice dd dn dc, .int .i64 zero], .agg #[.string name, .int .i64 params, .int .i64 regs, .int .i64 slots, cv], .agg #[.int .i64 32, .int .i64 d, .int .i64 a, .int .i64 b, .int .i64 l, .int .i64 f, .int .i64 cond, .int .i64 real, .int .i64 size, .int .i64 imm, av]] w fun e w' => e = .returned (.bool (immF ((dn : Int) + zero) slots ⟨32, d, a, b, l, f, cond, real, size, imm, av, args⟩)) ∧ Tn No w w' := by
  have hi1 := hi.1
  have hi2 := hi.2
  clear hi
  have hdn : 0 ≤ (dn : Int) := by omega
  have HT : Hid (∀ A B C n, Tn No w ((((w.alloc A).alloc B).alloc C).drewN n)) := hid (fun A B C n => by first | exact (((Tn.refl No w).alloc A).alloc B).alloc C | exact ((((Tn.refl No w).alloc A).alloc B).alloc C).drewN _)
  by_cases h1 : 0 ≤ imm
  · by_cases h2 : imm ≤ slots - 1
    · have HV : Hid ((immF ((dn : Int) + zero) slots ⟨32, d, a, b, l, f, cond, real, size, imm, av, args⟩) = true) := hid (by unfold immF; simp; omega)
      go_enter Tryz.func98, Tryz.ntmps98
      go_wp2_with fail
      go_quiet (fail)
      go_wp2_with fail
      go_ret
      exact ⟨ret_bool (by rw [HV.out] <;> first | rfl | (simp; omega)), HT.out _ _ _ _⟩
    · have h2' : slots - 1 < imm := by omega
      have HV : Hid ((immF ((dn : Int) + zero) slots ⟨32, d, a, b, l, f, cond, real, size, imm, av, args⟩) = false) := hid (by unfold immF; simp; omega)
      clear h2
      go_enter Tryz.func98, Tryz.ntmps98
      go_wp2_with fail
      go_quiet (fail)
      go_wp2_with fail
      go_ret
      exact ⟨ret_bool (by rw [HV.out] <;> first | rfl | (simp; omega)), HT.out _ _ _ _⟩
  · have h1' : imm < 0 := by omega
    have HV : Hid ((immF ((dn : Int) + zero) slots ⟨32, d, a, b, l, f, cond, real, size, imm, av, args⟩) = false) := hid (by unfold immF; simp; omega)
    clear h1
    go_enter Tryz.func98, Tryz.ntmps98
    go_wp2_with fail
    go_quiet (fail)
    go_wp2_with fail
    go_ret
    exact ⟨ret_bool (by rw [HV.out] <;> first | rfl | (simp; omega)), HT.out _ _ _ _⟩

set_option maxHeartbeats 1000000 in
set_option maxRecDepth 100000 in
theorem imm_x (n17 : k ≠ 17) (n18 : k ≠ 18) (n27 : k ≠ 27) (n31 : k ≠ 31) (n32 : k ≠ 32) (hi : i64ok imm) (hz : 0 ≤ zero) (hz2 : (dn : Int) + zero ≤ 268435456) (hs : 0 ≤ slots) (hs2 : slots ≤ 1048576) :
    Calls Tryz.prog 98 #[.agg #[fv, .slice dd dn dc, .int .i64 zero], .agg #[.string name, .int .i64 params, .int .i64 regs, .int .i64 slots, cv], .agg #[.int .i64 k, .int .i64 d, .int .i64 a, .int .i64 b, .int .i64 l, .int .i64 f, .int .i64 cond, .int .i64 real, .int .i64 size, .int .i64 imm, av]] w fun e w' => e = .returned (.bool (immF ((dn : Int) + zero) slots ⟨k, d, a, b, l, f, cond, real, size, imm, av, args⟩)) ∧ Tn No w w' := by
  have hi1 := hi.1
  have hi2 := hi.2
  clear hi
  have hdn : 0 ≤ (dn : Int) := by omega
  have HT : Hid (∀ A B C, Tn No w (((w.alloc A).alloc B).alloc C)) := hid (fun A B C => by first | exact (((Tn.refl No w).alloc A).alloc B).alloc C | exact ((((Tn.refl No w).alloc A).alloc B).alloc C).drewN _)
  have e17 : (k == 17) = false := by simpa using n17
  have e18 : (k == 18) = false := by simpa using n18
  have e27 : (k == 27) = false := by simpa using n27
  have e31 : (k == 31) = false := by simpa using n31
  have e32 : (k == 32) = false := by simpa using n32
  have HV : Hid ((immF ((dn : Int) + zero) slots ⟨k, d, a, b, l, f, cond, real, size, imm, av, args⟩) = true) := hid (by unfold immF; simp [n17, n18, n27, n31, n32])
  have h1 : decide (-9223372036854775808 ≤ imm) = true := by simpa using hi1
  have h2 : decide (imm ≤ 9223372036854775807) = true := by simpa using hi2
  go_enter Tryz.func98, Tryz.ntmps98
  go_wp2_with fail
  go_ret
  exact ⟨ret_bool (by rw [HV.out] <;> first | rfl | (simp; omega)), HT.out _ _ _⟩
end

theorem imm_raw (p : Wp) (f : Wf) (x : Wd) (w : World) (hd : ∃ a c, p.dv = .slice a p.data.length c) (hi : i64ok x.imm) (hz : 0 ≤ p.zero) (hz2 : (p.data.length : Int) + p.zero ≤ 268435456) (hs : 0 ≤ f.slots) (hs2 : f.slots ≤ 1048576) :
    Calls Tryz.prog 98 #[p.val, f.val, x.val] w fun e w' => e = .returned (.bool (immF ((p.data.length : Int) + p.zero) f.slots x)) ∧ Tn No w w' := by
  obtain ⟨fv, funs, dv, data, zero⟩ := p
  obtain ⟨name, params, regs, slots, cv, code⟩ := f
  obtain ⟨k, d, a, b, l, ff, cond, real, size, imm, av, args⟩ := x
  simp only at hd hi hz hz2 hs hs2
  obtain ⟨da, dc, rfl⟩ := hd
  simp only [Wp.val, Wf.val, Wd.val]
  generalize data.length = dn at *
  by_cases h17 : k = 17
  · subst h17; exact imm_17 d a b l ff cond real size imm av args fv da dn dc zero name params regs slots cv w hi hz hz2 hs hs2
  by_cases h18 : k = 18
  · subst h18; exact imm_18 d a b l ff cond real size imm av args fv da dn dc zero name params regs slots cv w hi hz hz2 hs hs2
  by_cases h27 : k = 27
  · subst h27; exact imm_27 d a b l ff cond real size imm av args fv da dn dc zero name params regs slots cv w hi hz hz2 hs hs2
  by_cases h31 : k = 31
  · subst h31; exact imm_31 d a b l ff cond real size imm av args fv da dn dc zero name params regs slots cv w hi hz hz2 hs hs2
  by_cases h32 : k = 32
  · subst h32; exact imm_32 d a b l ff cond real size imm av args fv da dn dc zero name params regs slots cv w hi hz hz2 hs hs2
  exact imm_x k d a b l ff cond real size imm av args fv da dn dc zero name params regs slots cv w h17 h18 h27 h31 h32 hi hz hz2 hs hs2
end Go.Proofs.YtoidddfpekbliaaGreat
