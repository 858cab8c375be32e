/-
  word: what an instruction calls may be; data, lines, heads.
-/
import Derived.Test.YtoidddfpekbliaaGreatWImm
namespace Go.Proofs.YtoidddfpekbliaaGreat
set_option linter.unusedSimpArgs false
set_option linter.unusedVariables false
open Go.RowKit
attribute [local go_sem ↓] Go.wp_at_zero Go.wp_at_succ

section
variable (k d a b l f cond real size imm : Int) (ad : Option Addr) (an ac : Nat) (fd : Option Addr) (fn fc : Nat) (dv : Value) (zero : Int) (w : World)

/-- a kind that calls none by name, or what it names is there -/
theorem fields_bit16 {k : Int} : (bits BinOp.and IntKind.i64 (fieldsF k) 16 != 0) = bit 16 k := by
  by_cases hk : 1 ≤ k ∧ k ≤ 32
  · have cases32 : k = 1 ∨ k = 2 ∨ k = 3 ∨ k = 4 ∨ k = 5 ∨ k = 6 ∨ k = 7 ∨ k = 8 ∨ k = 9 ∨ k = 10 ∨ k = 11 ∨ k = 12 ∨ k = 13 ∨ k = 14 ∨ k = 15 ∨ k = 16 ∨ k = 17 ∨ k = 18 ∨ k = 19 ∨ k = 20 ∨ k = 21 ∨ k = 22 ∨ k = 23 ∨ k = 24 ∨ k = 25 ∨ k = 26 ∨ k = 27 ∨ k = 28 ∨ k = 29 ∨ k = 30 ∨ k = 31 ∨ k = 32 := by omega
    rcases cases32 with rfl | rfl | rfl | rfl | rfl | rfl | rfl | rfl | rfl | rfl | rfl | rfl | rfl | rfl | rfl | rfl | rfl | rfl | rfl | rfl | rfl | rfl | rfl | rfl | rfl | rfl | rfl | rfl | rfl | rfl | rfl | rfl <;> decide
  · unfold bit; rw [fieldsF_out (by omega)]; decide
theorem fields_bit8 {k : Int} : (bits BinOp.and IntKind.i64 (fieldsF k) 8 != 0) = bit 8 k := by
  by_cases hk : 1 ≤ k ∧ k ≤ 32
  · have cases32 : k = 1 ∨ k = 2 ∨ k = 3 ∨ k = 4 ∨ k = 5 ∨ k = 6 ∨ k = 7 ∨ k = 8 ∨ k = 9 ∨ k = 10 ∨ k = 11 ∨ k = 12 ∨ k = 13 ∨ k = 14 ∨ k = 15 ∨ k = 16 ∨ k = 17 ∨ k = 18 ∨ k = 19 ∨ k = 20 ∨ k = 21 ∨ k = 22 ∨ k = 23 ∨ k = 24 ∨ k = 25 ∨ k = 26 ∨ k = 27 ∨ k = 28 ∨ k = 29 ∨ k = 30 ∨ k = 31 ∨ k = 32 := by omega
    rcases cases32 with rfl | rfl | rfl | rfl | rfl | rfl | rfl | rfl | rfl | rfl | rfl | rfl | rfl | rfl | rfl | rfl | rfl | rfl | rfl | rfl | rfl | rfl | rfl | rfl | rfl | rfl | rfl | rfl | rfl | rfl | rfl | rfl <;> decide
  · unfold bit; rw [fieldsF_out (by omega)]; decide

abbrev PV (fd : Option Addr) (fn fc : Nat) (dv : Value) (zero : Int) : Value := .agg #[.slice fd fn fc, dv, .int .i64 zero]

/-- what it names is not there -/
theorem called_no (hb : bit 16 k = true) (hf : (decide (0 ≤ f) && decide (f ≤ (fn : Int) - 1)) = false) (hn : (fn : Int) ≤ 1073741824) :
    Calls Tryz.prog 99 #[.agg #[.slice fd fn fc, dv, .int .i64 zero], .agg #[.int .i64 k, .int .i64 d, .int .i64 a, .int .i64 b, .int .i64 l, .int .i64 f, .int .i64 cond, .int .i64 real, .int .i64 size, .int .i64 imm, .slice ad an ac]] w fun e w' => e = .returned (.bool false) ∧ Tn No w w' := by
  have HFi : Hid (∀ u, Calls Tryz.prog 96 #[.int .i64 k] u fun e w' => e = .returned (.int .i64 (fieldsF k)) ∧ w' = u) := hid (fun u => fields_raw k u)
  have HA : Hid (∀ u, Calls Tryz.prog 93 #[.int .i64 f, .int .i64 0, .int .i64 ((fn : Int) - 1)] u fun e w' => e = .returned (.bool false) ∧ w' = u) := hid (fun u => by rw [← hf]; exact among_raw _ _ _ u)
  have hb2 : (bits BinOp.and IntKind.i64 (fieldsF k) 16 != 0) = true := fields_bit16.trans hb
  have HT : Hid (∀ A B, Tn No w ((w.alloc A).alloc B)) := hid (fun A B => ((Tn.refl No w).alloc A).alloc B)
  have hf0 : 0 ≤ (fn : Int) := by omega
  obtain ⟨v, hv⟩ : ∃ v, fieldsF k = v := ⟨_, rfl⟩
  rw [hv] at HFi hb2
  clear hb hf hv
  go_enter Tryz.func99, Tryz.ntmps99
  go_wp2_with (first
    | (go_at_call 96; refine (HFi.out _).mono ?_; rintro e w2 ⟨rfl, rfl⟩)
    | (go_at_call 93; refine (HA.out _).mono ?_; rintro e w2 ⟨rfl, rfl⟩))
  go_ret
  exact ⟨rfl, HT.out _ _⟩

set_option maxHeartbeats 1000000 in
set_option maxRecDepth 100000 in
theorem called_22 (q : Nat) (hq : q < fn) (hn : fn ≤ 1073741824) (ha : an ≤ 1073741824) (P : Int) (g o : Nat) (hfd : fd = some ⟨g, o, none⟩) (hg : g < w.heap.size) (hc : w.cell? ⟨g, o + (q * 5 + 1), none⟩ = some (.int .i64 P)) :
    Calls Tryz.prog 99 #[.agg #[.slice fd fn fc, dv, .int .i64 zero], .agg #[.int .i64 22, .int .i64 d, .int .i64 a, .int .i64 b, .int .i64 l, .int .i64 (q : Int), .int .i64 cond, .int .i64 real, .int .i64 size, .int .i64 imm, .slice ad an ac]] w fun e w' => e = .returned (.bool (decide ((an : Int) = P))) ∧ Tn No w w' := by
  subst hfd
  have HFi : Hid (∀ u, Calls Tryz.prog 96 #[.int .i64 22] u fun e w' => e = .returned (.int .i64 49) ∧ w' = u) := hid (fun u => fields_raw 22 u)
  have HA : Hid (∀ u, Calls Tryz.prog 93 #[.int .i64 (q : Int), .int .i64 0, .int .i64 ((fn : Int) - 1)] u fun e w' => e = .returned (.bool true) ∧ w' = u) := hid (fun u => by
    have := among_raw (q : Int) 0 ((fn : Int) - 1) u
    have e : (decide (0 ≤ (q : Int)) && decide ((q : Int) ≤ (fn : Int) - 1)) = true := by simp; omega
    rw [e] at this; exact this)
  have HT : Hid (∀ A B n, Tn No w (((w.alloc A).alloc B).drewN n)) := hid (fun A B n => (((Tn.refl No w).alloc A).alloc B).drewN n)
  have HC : Hid (∀ A B, ((w.alloc A).alloc B).cell? ⟨g, o + q * 5 + 1, none⟩ = some (.int .i64 P)) := hid (fun A B => by
    rw [Tn.cell (((Tn.refl No w).alloc A).alloc B) hg (fun e => e), Nat.add_assoc]; exact hc)
  have c0 := HC.out (.cells #[.slice (some ⟨g, o, none⟩) fn fc, dv, .int .i64 zero] 25) (.cells #[.int .i64 22, .int .i64 d, .int .i64 a, .int .i64 b, .int .i64 l, .int .i64 (q : Int), .int .i64 cond, .int .i64 real, .int .i64 size, .int .i64 imm, .slice ad an ac] 79)
  have hf0 : 0 ≤ (fn : Int) := by omega
  have hqi : (q : Int) < (fn : Int) := by omega
  clear hc
  go_enter Tryz.func99, Tryz.ntmps99
  go_wp2_with (first
    | (go_at_call 96; refine (HFi.out _).mono ?_; rintro e w2 ⟨rfl, rfl⟩)
    | (go_at_call 93; refine (HA.out _).mono ?_; rintro e w2 ⟨rfl, rfl⟩))
  go_quiet (fail)
  go_wp2_with fail
  go_ret
  exact ⟨ret_bool (by first | rfl | (simp; done) | (simp; omega)), HT.out _ _ _⟩

set_option maxHeartbeats 1000000 in
set_option maxRecDepth 100000 in
theorem called_24 (q : Nat) (hq : q < fn) (hn : fn ≤ 1073741824) (ha : an ≤ 1073741824) (P : Int) (g o : Nat) (hfd : fd = some ⟨g, o, none⟩) (hg : g < w.heap.size) (hc : w.cell? ⟨g, o + (q * 5 + 1), none⟩ = some (.int .i64 P)) :
    Calls Tryz.prog 99 #[.agg #[.slice fd fn fc, dv, .int .i64 zero], .agg #[.int .i64 24, .int .i64 d, .int .i64 a, .int .i64 b, .int .i64 l, .int .i64 (q : Int), .int .i64 cond, .int .i64 real, .int .i64 size, .int .i64 imm, .slice ad an ac]] w fun e w' => e = .returned (.bool (decide ((an : Int) = P))) ∧ Tn No w w' := by
  subst hfd
  have HFi : Hid (∀ u, Calls Tryz.prog 96 #[.int .i64 24] u fun e w' => e = .returned (.int .i64 48) ∧ w' = u) := hid (fun u => fields_raw 24 u)
  have HA : Hid (∀ u, Calls Tryz.prog 93 #[.int .i64 (q : Int), .int .i64 0, .int .i64 ((fn : Int) - 1)] u fun e w' => e = .returned (.bool true) ∧ w' = u) := hid (fun u => by
    have := among_raw (q : Int) 0 ((fn : Int) - 1) u
    have e : (decide (0 ≤ (q : Int)) && decide ((q : Int) ≤ (fn : Int) - 1)) = true := by simp; omega
    rw [e] at this; exact this)
  have HT : Hid (∀ A B n, Tn No w (((w.alloc A).alloc B).drewN n)) := hid (fun A B n => (((Tn.refl No w).alloc A).alloc B).drewN n)
  have HC : Hid (∀ A B, ((w.alloc A).alloc B).cell? ⟨g, o + q * 5 + 1, none⟩ = some (.int .i64 P)) := hid (fun A B => by
    rw [Tn.cell (((Tn.refl No w).alloc A).alloc B) hg (fun e => e), Nat.add_assoc]; exact hc)
  have c0 := HC.out (.cells #[.slice (some ⟨g, o, none⟩) fn fc, dv, .int .i64 zero] 25) (.cells #[.int .i64 24, .int .i64 d, .int .i64 a, .int .i64 b, .int .i64 l, .int .i64 (q : Int), .int .i64 cond, .int .i64 real, .int .i64 size, .int .i64 imm, .slice ad an ac] 79)
  have hf0 : 0 ≤ (fn : Int) := by omega
  have hqi : (q : Int) < (fn : Int) := by omega
  clear hc
  go_enter Tryz.func99, Tryz.ntmps99
  go_wp2_with (first
    | (go_at_call 96; refine (HFi.out _).mono ?_; rintro e w2 ⟨rfl, rfl⟩)
    | (go_at_call 93; refine (HA.out _).mono ?_; rintro e w2 ⟨rfl, rfl⟩))
  go_quiet (fail)
  go_wp2_with fail
  go_ret
  exact ⟨ret_bool (by first | rfl | (simp; done) | (simp; omega)), HT.out _ _ _⟩

set_option maxRecDepth 100000 in
theorem called_23 (ha : an ≤ 1073741824) :
    Calls Tryz.prog 99 #[.agg #[.slice fd fn fc, dv, .int .i64 zero], .agg #[.int .i64 23, .int .i64 d, .int .i64 a, .int .i64 b, .int .i64 l, .int .i64 f, .int .i64 cond, .int .i64 real, .int .i64 size, .int .i64 imm, .slice ad an ac]] w fun e w' => e = .returned (.bool (decide (an ≤ 4))) ∧ Tn No w w' := by
  have HFi : Hid (∀ u, Calls Tryz.prog 96 #[.int .i64 23] u fun e w' => e = .returned (.int .i64 35) ∧ w' = u) := hid (fun u => fields_raw 23 u)
  have HT : Hid (∀ A B, Tn No w ((w.alloc A).alloc B)) := hid (fun A B => ((Tn.refl No w).alloc A).alloc B)
  go_enter Tryz.func99, Tryz.ntmps99
  go_wp2_with (go_at_call 96; refine (HFi.out _).mono ?_; rintro e w2 ⟨rfl, rfl⟩)
  go_ret
  exact ⟨ret_bool (by first | rfl | (simp; done) | (simp; omega)), HT.out _ _⟩

set_option maxRecDepth 100000 in
theorem called_25 (ha : an ≤ 1073741824) :
    Calls Tryz.prog 99 #[.agg #[.slice fd fn fc, dv, .int .i64 zero], .agg #[.int .i64 25, .int .i64 d, .int .i64 a, .int .i64 b, .int .i64 l, .int .i64 f, .int .i64 cond, .int .i64 real, .int .i64 size, .int .i64 imm, .slice ad an ac]] w fun e w' => e = .returned (.bool (decide (an ≤ 4))) ∧ Tn No w w' := by
  have HFi : Hid (∀ u, Calls Tryz.prog 96 #[.int .i64 25] u fun e w' => e = .returned (.int .i64 34) ∧ w' = u) := hid (fun u => fields_raw 25 u)
  have HT : Hid (∀ A B, Tn No w ((w.alloc A).alloc B)) := hid (fun A B => ((Tn.refl No w).alloc A).alloc B)
  go_enter Tryz.func99, Tryz.ntmps99
  go_wp2_with (go_at_call 96; refine (HFi.out _).mono ?_; rintro e w2 ⟨rfl, rfl⟩)
  go_ret
  exact ⟨ret_bool (by first | rfl | (simp; done) | (simp; omega)), HT.out _ _⟩

set_option maxRecDepth 100000 in
theorem called_30 (ha : an ≤ 1073741824) :
    Calls Tryz.prog 99 #[.agg #[.slice fd fn fc, dv, .int .i64 zero], .agg #[.int .i64 30, .int .i64 d, .int .i64 a, .int .i64 b, .int .i64 l, .int .i64 f, .int .i64 cond, .int .i64 real, .int .i64 size, .int .i64 imm, .slice ad an ac]] w fun e w' => e = .returned (.bool (decide (an ≤ 3))) ∧ Tn No w w' := by
  have HFi : Hid (∀ u, Calls Tryz.prog 96 #[.int .i64 30] u fun e w' => e = .returned (.int .i64 33) ∧ w' = u) := hid (fun u => fields_raw 30 u)
  have HT : Hid (∀ A B, Tn No w ((w.alloc A).alloc B)) := hid (fun A B => ((Tn.refl No w).alloc A).alloc B)
  go_enter Tryz.func99, Tryz.ntmps99
  go_wp2_with (go_at_call 96; refine (HFi.out _).mono ?_; rintro e w2 ⟨rfl, rfl⟩)
  go_ret
  exact ⟨ret_bool (by first | rfl | (simp; done) | (simp; omega)), HT.out _ _⟩

set_option maxRecDepth 100000 in
theorem called_x (hb : bit 16 k = false) (n22 : k ≠ 22) (n23 : k ≠ 23) (n24 : k ≠ 24) (n25 : k ≠ 25) (n30 : k ≠ 30) :
    Calls Tryz.prog 99 #[.agg #[.slice fd fn fc, dv, .int .i64 zero], .agg #[.int .i64 k, .int .i64 d, .int .i64 a, .int .i64 b, .int .i64 l, .int .i64 f, .int .i64 cond, .int .i64 real, .int .i64 size, .int .i64 imm, .slice ad an ac]] w fun e w' => e = .returned (.bool true) ∧ Tn No w w' := by
  have HFi : Hid (∀ u, Calls Tryz.prog 96 #[.int .i64 k] u fun e w' => e = .returned (.int .i64 (fieldsF k)) ∧ w' = u) := hid (fun u => fields_raw k u)
  have hb2 : (bits BinOp.and IntKind.i64 (fieldsF k) 16 != 0) = false := fields_bit16.trans hb
  have HT : Hid (∀ A B, Tn No w ((w.alloc A).alloc B)) := hid (fun A B => ((Tn.refl No w).alloc A).alloc B)
  obtain ⟨v, hv⟩ : ∃ v, fieldsF k = v := ⟨_, rfl⟩
  rw [hv] at HFi hb2
  have e22 : (k == 22) = false := by simpa using n22
  have e23 : (k == 23) = false := by simpa using n23
  have e24 : (k == 24) = false := by simpa using n24
  have e25 : (k == 25) = false := by simpa using n25
  have e30 : (k == 30) = false := by simpa using n30
  clear hb hv n22 n23 n24 n25 n30
  go_enter Tryz.func99, Tryz.ntmps99
  go_wp2_with (go_at_call 96; refine (HFi.out _).mono ?_; rintro e w2 ⟨rfl, rfl⟩)
  go_ret
  exact ⟨rfl, HT.out _ _⟩

set_option maxRecDepth 100000 in
theorem called_y (hf : (decide (0 ≤ f) && decide (f ≤ (fn : Int) - 1)) = true) (hn : (fn : Int) ≤ 1073741824) (hb : bit 16 k = true) (n22 : k ≠ 22) (n23 : k ≠ 23) (n24 : k ≠ 24) (n25 : k ≠ 25) (n30 : k ≠ 30) :
    Calls Tryz.prog 99 #[.agg #[.slice fd fn fc, dv, .int .i64 zero], .agg #[.int .i64 k, .int .i64 d, .int .i64 a, .int .i64 b, .int .i64 l, .int .i64 f, .int .i64 cond, .int .i64 real, .int .i64 size, .int .i64 imm, .slice ad an ac]] w fun e w' => e = .returned (.bool true) ∧ Tn No w w' := by
  have HFi : Hid (∀ u, Calls Tryz.prog 96 #[.int .i64 k] u fun e w' => e = .returned (.int .i64 (fieldsF k)) ∧ w' = u) := hid (fun u => fields_raw k u)
  have HA : Hid (∀ u, Calls Tryz.prog 93 #[.int .i64 f, .int .i64 0, .int .i64 ((fn : Int) - 1)] u fun e w' => e = .returned (.bool true) ∧ w' = u) := hid (fun u => by rw [← hf]; exact among_raw _ _ _ u)
  have hb2 : (bits BinOp.and IntKind.i64 (fieldsF k) 16 != 0) = true := fields_bit16.trans hb
  have HT : Hid (∀ A B, Tn No w ((w.alloc A).alloc B)) := hid (fun A B => ((Tn.refl No w).alloc A).alloc B)
  obtain ⟨v, hv⟩ : ∃ v, fieldsF k = v := ⟨_, rfl⟩
  rw [hv] at HFi hb2
  have hf0 : 0 ≤ (fn : Int) := by omega
  have e22 : (k == 22) = false := by simpa using n22
  have e23 : (k == 23) = false := by simpa using n23
  have e24 : (k == 24) = false := by simpa using n24
  have e25 : (k == 25) = false := by simpa using n25
  have e30 : (k == 30) = false := by simpa using n30
  clear hb hv n22 n23 n24 n25 n30 hf
  go_enter Tryz.func99, Tryz.ntmps99
  go_wp2_with (first
    | (go_at_call 96; refine (HFi.out _).mono ?_; rintro e w2 ⟨rfl, rfl⟩)
    | (go_at_call 93; refine (HA.out _).mono ?_; rintro e w2 ⟨rfl, rfl⟩))
  go_ret
  exact ⟨rfl, HT.out _ _⟩
end

theorem called_raw (p : Wp) (x : Wd) (w : World) (hp : LD 5 eF w p.fv p.funs) (hpl : p.funs.length ≤ 1073741824) (hx : ∃ a c, x.av = .slice a x.args.length c) (hxl : x.args.length ≤ 1073741824) :
    Calls Tryz.prog 99 #[p.val, x.val] w fun e w' => e = .returned (.bool (callF p.funs x)) ∧ Tn No w w' := by
  obtain ⟨fv, funs, dv, data, zero⟩ := p
  obtain ⟨k, d, a, b, l, f, cond, real, size, imm, av, args⟩ := x
  simp only at hp hpl hx hxl
  obtain ⟨ad, ac, rfl⟩ := hx
  obtain ⟨fd, fc, rfl, _, _, hat⟩ := hp
  simp only [Wp.val, Wd.val]
  by_cases hb : bit 16 k = true
  · by_cases hf : (decide (0 ≤ f) && decide (f ≤ (funs.length : Int) - 1)) = true
    · have hq : ∃ q : Nat, f = q ∧ q < funs.length := ⟨f.toNat, by simp at hf; omega, by simp at hf; omega⟩
      obtain ⟨q, rfl, hq⟩ := hq
      obtain ⟨g, o, rfl, hg, hcell⟩ := hat (by omega)
      have hc : w.cell? ⟨g, o + (q * 5 + 1), none⟩ = some (.int .i64 funs[q].params) := by rw [hcell q hq 1 (by omega)]; rfl
      have hv : ((funs[(q : Int).toNat]?).map Wf.params).getD 0 = funs[q].params := by simp [hq]
      by_cases h22 : k = 22
      · subst h22
        have e : callF funs ⟨22, d, a, b, l, q, cond, real, size, imm, .slice ad args.length ac, args⟩ = decide ((args.length : Int) = funs[q].params) := by
          unfold callF; rw [hf, hb, hv]; simp
        rw [e]
        exact called_22 d a b l cond real size imm ad args.length ac _ funs.length fc dv zero w q hq hpl hxl _ g o rfl hg hc
      by_cases h24 : k = 24
      · subst h24
        have e : callF funs ⟨24, d, a, b, l, q, cond, real, size, imm, .slice ad args.length ac, args⟩ = decide ((args.length : Int) = funs[q].params) := by
          unfold callF; rw [hf, hb, hv]; simp
        rw [e]
        exact called_24 d a b l cond real size imm ad args.length ac _ funs.length fc dv zero w q hq hpl hxl _ g o rfl hg hc
      have n23 : k ≠ 23 := by rintro rfl; revert hb; decide
      have n25 : k ≠ 25 := by rintro rfl; revert hb; decide
      have n30 : k ≠ 30 := by rintro rfl; revert hb; decide
      have e : callF funs ⟨k, d, a, b, l, q, cond, real, size, imm, .slice ad args.length ac, args⟩ = true := by
        unfold callF; rw [hf, hb]; simp [h22, h24, n23, n25, n30]
      rw [e]
      exact called_y k d a b l q cond real size imm ad args.length ac _ funs.length fc dv zero w hf (by omega) hb h22 n23 h24 n25 n30
    · have e : callF funs ⟨k, d, a, b, l, f, cond, real, size, imm, .slice ad args.length ac, args⟩ = false := by
        unfold callF; rw [hb]; simp only [Bool.not_eq_true] at hf; rw [hf]; rfl
      rw [e]
      exact called_no k d a b l f cond real size imm ad args.length ac _ funs.length fc dv zero w hb (by simpa using hf) (by omega)
  · have hb : bit 16 k = false := by simpa using hb
    by_cases h23 : k = 23
    · subst h23
      have e : callF funs ⟨23, d, a, b, l, f, cond, real, size, imm, .slice ad args.length ac, args⟩ = decide (args.length ≤ 4) := by unfold callF; rw [hb]; simp
      rw [e]
      exact called_23 d a b l f cond real size imm ad args.length ac _ funs.length fc dv zero w hxl
    by_cases h25 : k = 25
    · subst h25
      have e : callF funs ⟨25, d, a, b, l, f, cond, real, size, imm, .slice ad args.length ac, args⟩ = decide (args.length ≤ 4) := by unfold callF; rw [hb]; simp
      rw [e]
      exact called_25 d a b l f cond real size imm ad args.length ac _ funs.length fc dv zero w hxl
    by_cases h30 : k = 30
    · subst h30
      have e : callF funs ⟨30, d, a, b, l, f, cond, real, size, imm, .slice ad args.length ac, args⟩ = decide (args.length ≤ 3) := by unfold callF; rw [hb]; simp
      rw [e]
      exact called_30 d a b l f cond real size imm ad args.length ac _ funs.length fc dv zero w hxl
    have n22 : k ≠ 22 := by rintro rfl; revert hb; decide
    have n24 : k ≠ 24 := by rintro rfl; revert hb; decide
    have e : callF funs ⟨k, d, a, b, l, f, cond, real, size, imm, .slice ad args.length ac, args⟩ = true := by unfold callF; rw [hb]; simp [n22, n24, h23, h25, h30]
    rw [e]
    exact called_x k d a b l f cond real size imm ad args.length ac _ funs.length fc dv zero w hb n22 h23 n24 h25 h30

/-! ### data, heads -/
section
variable (name : ByteArray) (params regs slots : Int) (cv : Value) (w : World)
set_option maxHeartbeats 2000000 in
set_option maxRecDepth 100000 in
theorem head_raw (f : Wf) (w : World) : Calls Tryz.prog 61 #[f.val] w fun e w' => e = .returned (.bool (headF f)) ∧ Tn No w w' := by
  obtain ⟨name, params, regs, slots, cv, code⟩ := f
  simp only [Wf.val, headF]
  have HT : Hid (∀ A, Tn No w (w.alloc A)) := hid (fun A => (Tn.refl No w).alloc A)
  have HA1 : Hid (∀ u, Calls Tryz.prog 93 #[.int .i64 params, .int .i64 0, .int .i64 4] u fun e w' => e = .returned (.bool (decide (0 ≤ params) && decide (params ≤ 4))) ∧ w' = u) := hid (fun u => among_raw _ _ _ u)
  have HA2 : Hid (∀ u, Calls Tryz.prog 93 #[.int .i64 regs, .int .i64 params, .int .i64 65536] u fun e w' => e = .returned (.bool (decide (params ≤ regs) && decide (regs ≤ 65536))) ∧ w' = u) := hid (fun u => among_raw _ _ _ u)
  have HA3 : Hid (∀ u, Calls Tryz.prog 93 #[.int .i64 slots, .int .i64 0, .int .i64 1048576] u fun e w' => e = .returned (.bool (decide (0 ≤ slots) && decide (slots ≤ 1048576))) ∧ w' = u) := hid (fun u => among_raw _ _ _ u)
  have e0 : (decide (0 ≤ params) && decide (params ≤ 4) && decide (params ≤ regs) && decide (regs ≤ 65536) && decide (0 ≤ slots) && decide (slots ≤ 1048576)) = ((decide (0 ≤ params) && decide (params ≤ 4)) && (decide (params ≤ regs) && decide (regs ≤ 65536)) && (decide (0 ≤ slots) && decide (slots ≤ 1048576))) := by
    simp only [Bool.and_assoc]
  rw [e0]
  clear e0
  obtain ⟨b1, hb1⟩ : ∃ b, (decide (0 ≤ params) && decide (params ≤ 4)) = b := ⟨_, rfl⟩
  obtain ⟨b2, hb2⟩ : ∃ b, (decide (params ≤ regs) && decide (regs ≤ 65536)) = b := ⟨_, rfl⟩
  obtain ⟨b3, hb3⟩ : ∃ b, (decide (0 ≤ slots) && decide (slots ≤ 1048576)) = b := ⟨_, rfl⟩
  rw [hb1] at HA1 ⊢
  rw [hb2] at HA2 ⊢
  rw [hb3] at HA3 ⊢
  clear hb1 hb2 hb3
  cases b1 <;> cases b2 <;> cases b3
  all_goals
    go_enter Tryz.func61, Tryz.ntmps61
    go_wp2_with (first
      | (go_at_call_of 93 (Value.int IntKind.i64 4); refine (HA1.out _).mono ?_; rintro e w2 ⟨rfl, rfl⟩)
      | (go_at_call_of 93 (Value.int IntKind.i64 65536); refine (HA2.out _).mono ?_; rintro e w2 ⟨rfl, rfl⟩)
      | (go_at_call_of 93 (Value.int IntKind.i64 1048576); refine (HA3.out _).mono ?_; rintro e w2 ⟨rfl, rfl⟩))
    go_ret
    exact ⟨rfl, HT.out _⟩

set_option maxRecDepth 100000 in
theorem dataB_raw (p : Wp) (w : World) (hd : ∃ a c, p.dv = .slice a p.data.length c) (hl : p.data.length ≤ 1073741824) : Calls Tryz.prog 59 #[p.val] w fun e w' => e = .returned (.bool (dataF p)) ∧ Tn No w w' := by
  obtain ⟨fv, funs, dv, data, zero⟩ := p
  simp only at hd hl
  obtain ⟨da, dc, rfl⟩ := hd
  simp only [Wp.val, dataF]
  have HT : Hid (∀ A, Tn No w (w.alloc A)) := hid (fun A => (Tn.refl No w).alloc A)
  generalize data.length = dn at *
  have HA : Hid (∀ u, Calls Tryz.prog 93 #[.int .i64 zero, .int .i64 0, .int .i64 (268435456 - (dn : Int))] u fun e w' => e = .returned (.bool (decide (0 ≤ zero) && decide (zero ≤ 268435456 - (dn : Int)))) ∧ w' = u) := hid (fun u => among_raw _ _ _ u)
  obtain ⟨b1, hb1⟩ : ∃ b, (decide (0 ≤ zero) && decide (zero ≤ 268435456 - (dn : Int))) = b := ⟨_, rfl⟩
  rw [hb1] at HA ⊢
  clear hb1
  go_enter Tryz.func59, Tryz.ntmps59
  go_wp2_with (go_at_call 93; refine (HA.out _).mono ?_; rintro e w2 ⟨rfl, rfl⟩)
  go_ret
  exact ⟨rfl, HT.out _⟩
end
end Go.Proofs.YtoidddfpekbliaaGreat
namespace Go.Proofs.YtoidddfpekbliaaGreat
set_option linter.unusedSimpArgs false
set_option linter.unusedVariables false
open Go.RowKit
attribute [local go_sem ↓] Go.wp_at_zero Go.wp_at_succ

theorem int_info : (Tryz.prog.info? 3).map (fun i => (i.zero, i.size, i.bytes)) = some (some (.int .i64 0), 1, 8) := by kernel_rfl
theorem zeroInt (w : World) : (zeroValue 3).run Tryz.prog w = .ok (.int .i64 0) w := by
  obtain ⟨i, hi, z0, z1, z2⟩ := info_parts int_info
  simp [zeroValue, typeInfo, hi, z0]
theorem i64_wf {x : Int} (h : i64ok x) : (Lit.int .i64 x).wf = true := WalkArith.wf_i64 ⟨h.1, h.2⟩

/-- an instruction's cells in a list -/
theorem word_cells {w : World} {g o : Nat} {l : List Wd} (h : ∀ i (hi : i < l.length) j, j < 11 → w.cell? ⟨g, o + (i * 11 + j), none⟩ = (eW l[i])[j]?) (q : Nat) (hq : q < l.length) :
    w.cell? ⟨g, o + q * 11, none⟩ = some (.int .i64 l[q].k) ∧ w.cell? ⟨g, o + q * 11 + 1, none⟩ = some (.int .i64 l[q].d) ∧ w.cell? ⟨g, o + q * 11 + 2, none⟩ = some (.int .i64 l[q].a) ∧ w.cell? ⟨g, o + q * 11 + 3, none⟩ = some (.int .i64 l[q].b) ∧ w.cell? ⟨g, o + q * 11 + 4, none⟩ = some (.int .i64 l[q].l) ∧ w.cell? ⟨g, o + q * 11 + 5, none⟩ = some (.int .i64 l[q].f) ∧
    w.cell? ⟨g, o + q * 11 + 6, none⟩ = some (.int .i64 l[q].cond) ∧ w.cell? ⟨g, o + q * 11 + 7, none⟩ = some (.int .i64 l[q].real) ∧ w.cell? ⟨g, o + q * 11 + 8, none⟩ = some (.int .i64 l[q].size) ∧ w.cell? ⟨g, o + q * 11 + 9, none⟩ = some (.int .i64 l[q].imm) ∧ w.cell? ⟨g, o + q * 11 + 10, none⟩ = some l[q].av := by
  have e : ∀ j, j < 11 → w.cell? ⟨g, o + q * 11 + j, none⟩ = (eW l[q])[j]? := fun j hj => by rw [Nat.add_assoc]; exact h q hq j hj
  exact ⟨e 0 (by omega), e 1 (by omega), e 2 (by omega), e 3 (by omega), e 4 (by omega), e 5 (by omega), e 6 (by omega), e 7 (by omega), e 8 (by omega), e 9 (by omega), e 10 (by omega)⟩

/-- what 'labels' leaves -/
def LabPost (w : World) (N : Nat) (r : Option (Int → Option Nat)) (e : Ending) (w' : World) : Prop :=
  Tn No w w' ∧ match r with
    | none => e = .returned (.tuple #[.map none, .bool false])
    | some m => ∃ b, e = .returned (.tuple #[.map (some b), .bool true]) ∧ w.heap.size ≤ b ∧ IM .i64 3 w' b N m

theorem labs_step {l : List Wd} {q : Nat} (hq : q < l.length) (m : Int → Option Nat) : labsF (l.drop q) q m = if l[q].k = 19 then (if (m l[q].l).isSome then none else labsF (l.drop (q + 1)) (q + 1) (updI m l[q].l (some q))) else labsF (l.drop (q + 1)) (q + 1) m := by
  rw [List.drop_eq_getElem_cons hq]; rfl

set_option maxHeartbeats 4000000 in
set_option maxRecDepth 100000 in
theorem labels_raw (v : Value) (l : List Wd) (w : World) (h : LD 11 eW w v l) (hok : ∀ x ∈ l, i64ok x.l ∧ ∃ a c, x.av = .slice a x.args.length c) (hl : l.length ≤ 1073741824) :
    Calls Tryz.prog 95 #[v] w (LabPost w l.length (labsF l 0 (fun _ => none))) := by
  obtain ⟨a, c, rfl, hc, hcm, hat⟩ := h
  have HAT := hid hat
  have HOK := hid hok
  obtain ⟨n, hn⟩ : ∃ n, l.length = n := ⟨_, rfl⟩
  have HN := hid hn
  rw [hn] at hc hl
  rw [hn]
  have HR0 : Hid (labsF l 0 (fun _ => none) = labsF (l.drop 0) 0 (fun _ => none)) := hid rfl
  obtain ⟨R, hR⟩ : ∃ R, labsF l 0 (fun _ => none) = R := ⟨_, rfl⟩
  rw [hR] at HR0 ⊢
  have hmm := @run_makeMap Tryz.prog
  have HI0 : Hid (IM .i64 3 (w.alloc (.map #[] 0)) w.heap.size 0 (fun _ => none)) := hid (IM.made _ _ _)
  have HT0 : Hid (Tn No w (w.alloc (.map #[] 0))) := hid ((Tn.refl No w).alloc _)
  have hz0 : w.heap.size < (w.alloc (.map #[] 0)).heap.size := by simp
  clear hat hok hn hR
  go_enter Tryz.func95, Tryz.ntmps95
  go_wp2_with fail
  go_loopw [12] (fun i wr => ∃ q : Nat, q ≤ n ∧ i = .int .i64 (q : Int) ∧ ∃ m, Hid (R = labsF (l.drop q) q m) ∧ Hid (IM .i64 3 wr w.heap.size q m) ∧ Hid (Tn No w wr) ∧ w.heap.size < wr.heap.size) (fun i _ => n - (intOf i).toNat)
  case atStart => exact ⟨0, by omega, rfl, _, HR0, HI0, HT0, hz0⟩
  case round =>
    obtain ⟨q, hq, rfl, m, HR, HI, HT, hz⟩ := hrel
    clear HR0 HI0 HT0 hz0
    by_cases hlt : q < n
    · have hql : q < l.length := by have := HN.out; omega
      obtain ⟨g, o, rfl, hg, hcell⟩ := HAT.out (by omega)
      have hcr : ∀ i (hi : i < l.length) j, j < 11 → wr.cell? ⟨g, o + (i * 11 + j), none⟩ = (eW l[i])[j]? := fun i hi j hj => by rw [HT.out.cell hg (fun e => e)]; exact hcell i hi j hj
      obtain ⟨q0, q1, q2, q3, q4, q5, q6, q7, q8, q9, q10⟩ := word_cells hcr q hql
      have hst := labs_step hql m
      obtain ⟨hxl, va, vc', hxv⟩ := HOK.out l[q] (List.getElem_mem hql)
      rw [← HR.out] at hst
      obtain ⟨x, hx⟩ : ∃ x, l[q] = x := ⟨_, rfl⟩
      rw [hx] at q0 q1 q2 q3 q4 q5 q6 q7 q8 q9 q10 hst hxl hxv
      obtain ⟨xk, xd, xa, xb, xl, xf, xc, xr, xs, xi, xv, xargs⟩ := x
      simp only at q0 q1 q2 q3 q4 q5 q6 q7 q8 q9 q10 hst hxl hxv
      subst hxv
      generalize xargs.length = vn at *
      have HST := hid hst
      have HXL := hid hxl
      have hqi : (q : Int) < (n : Int) := by omega
      clear hcr hst hx hxl hcell HAT HOK hg
      by_cases hk : xk = 19
      · subst hk
        obtain ⟨W1, hW1⟩ : ∃ W1, wr.alloc (.cells #[.int .i64 19, .int .i64 xd, .int .i64 xa, .int .i64 xb, .int .i64 xl, .int .i64 xf, .int .i64 xc, .int .i64 xr, .int .i64 xs, .int .i64 xi, .slice va vn vc'] 79) = W1 := ⟨_, rfl⟩
        have t1 : Tn No wr W1 := by rw [← hW1]; exact (Tn.refl No wr).alloc _
        have hi1 : IM .i64 3 W1 w.heap.size q m := HI.out.kept (t1.block _ hz (fun e => e))
        have HLK := hid (hi1.look Tryz.underlying3 Tryz.underlying80 (zeroInt W1) xl (i64_wf HXL.out))
        have HTW := hid (HT.out.then t1)
        by_cases hs : (m xl).isSome = true
        · have HE : Hid (R = none) := hid (by rw [HST.out]; simp [hs])
          rw [hs] at HLK
          generalize (m xl).getD 0 = y at HLK
          clear hi1 t1 hs HST
          subst hW1
          go_wp2_with (at_lookup; refine wpList_lookw _ rfl _ _ true rfl _ rfl _ rfl _ HLK.out ?_)
          go_ret2
          rw [HE.out]
          exact ⟨HTW.out, rfl⟩
        · have hs : (m xl).isSome = false := by simpa using hs
          have HE : Hid (R = labsF (l.drop (q + 1)) (q + 1) (updI m xl (some q))) := hid (by rw [HST.out]; simp [hs])
          rw [hs] at HLK
          obtain ⟨w2, hr2, him, hg2⟩ := hi1.store (by unfold maxLen; omega) Tryz.underlying3 Tryz.underlying80 xl (i64_wf HXL.out) q
          have HR2 := hid hr2
          have HI2 := hid him
          have HT2 := hid (HTW.out.grown hg2 (fun i e hi => by cases e; exact Nat.lt_irrefl _ hi))
          have hz2 : w.heap.size < w2.heap.size := by have := hg2.size; have := t1.size; omega
          generalize (m xl).getD 0 = y at HLK
          clear hi1 t1 hs HST hr2 him hg2 HI HR
          subst hW1
          go_wp2_with (first
            | (at_lookup; refine wpList_lookw _ rfl _ _ true rfl _ rfl _ rfl _ HLK.out ?_)
            | (at_mapUpdate; refine wpList_putw _ rfl _ _ _ rfl _ rfl _ rfl _ rfl _ HR2.out ?_))
          go_roundw
          case rel => exact ⟨q + 1, by omega, by go_num, _, HE, HI2, HT2, hz2⟩
          case measure => simp [intOf]; omega
      · have nk : (xk == 19) = false := by simpa using hk
        have HE : Hid (R = labsF (l.drop (q + 1)) (q + 1) m) := hid (by rw [HST.out]; simp [hk])
        have HTW : Hid (∀ o, Hid (Tn No w (wr.alloc o)) ∧ Hid (IM .i64 3 (wr.alloc o) w.heap.size (q + 1) m)) := hid (fun o => ⟨hid (HT.out.alloc o), hid (by
          obtain ⟨n', D, h1, h2⟩ := HI.out.kept (Below.heap_alloc wr o _ hz)
          exact ⟨n', D, by omega, h2⟩)⟩)
        have hzA : ∀ o, w.heap.size < (wr.alloc o).heap.size := fun o => by simp; omega
        have HZA := hid hzA
        clear hk hzA HST HI HR
        go_wp2_with fail
        go_roundw
        case rel => exact ⟨q + 1, by omega, by go_num, m, HE, (HTW.out _).2, (HTW.out _).1, HZA.out _⟩
        case measure => simp [intOf]; omega
    · obtain rfl : q = n := by omega
      have HE : Hid (R = some m) := hid (by rw [HR.out, List.drop_of_length_le (by have := HN.out; omega)]; rfl)
      clear HAT HOK HR
      go_wp2_with fail
      go_ret2
      rw [HE.out]
      exact ⟨HT.out, _, rfl, Nat.le_refl _, HI.out⟩
end Go.Proofs.YtoidddfpekbliaaGreat
