/-
  Reals that are no NaN: products and quotients by a number that is not nought are none either.
-/
import Derived.Test.YtcmhfeeocehlaaaGreatDoorRB
import Derived.Laws.FloatArith
import Derived.Test.YtcmhfeeocehlaaaGreatDoorPFA
namespace Go.Proofs.YtcmhfeeocehlaaaGreatDoor
set_option linter.unusedSimpArgs false
set_option linter.unusedVariables false
open Go.RowKit Ieee

/-- a word that is no NaN -/
def NN (x : Nat) : Prop := (FloatKind.f64.decode x).isNaN = false
/-- a number that is not nought -/
def Nz (x : Nat) : Prop := ∃ s m i, FloatKind.f64.decode x = .number s (m + 1) i

theorem read_word (neg : Bool) (r : Nat) (h : r ≤ double.infRung) : (double.read (double.word neg r)).isNaN = false := by
  have hw : double.word neg r % double.signWeight = r := by
    have e : double.infRung < double.signWeight := double.infRung_lt
    unfold Format.word
    cases neg
    · simp only [Bool.false_eq_true, if_false]
      exact Nat.mod_eq_of_lt (by omega)
    · simp only [if_true]
      rw [Nat.add_mod_left]
      exact Nat.mod_eq_of_lt (by omega)
  unfold Format.read
  simp only [hw]
  split
  · rfl
  · split
    · rfl
    · rw [if_pos (by omega)]; rfl
theorem nn_write (d : Datum) (h : d.isNaN = false) : NN (FloatKind.f64.encode d) := by
  show (double.read (double.write d)).isNaN = false
  cases d with
  | number neg mag place =>
    show (double.read (double.nearest neg mag place)).isNaN = false
    unfold Format.nearest
    split
    · exact read_word _ _ (Nat.zero_le _)
    · exact read_word _ _ (Nat.min_le_right _ _)
  | infinity neg => exact read_word _ _ (Nat.le_refl _)
  | nan s f => cases h
theorem nn_int (m : Int) : NN (floatOfInt .f64 m) := nn_write (.number (m < 0) m.natAbs 0) rfl
theorem nn_rung (x y : Nat) (h : x % double.signWeight = y % double.signWeight) (hx : NN x) : NN y := by
  have hx' : (double.read x).isNaN = false := hx
  show (double.read y).isNaN = false
  unfold Format.read at hx' ⊢
  simp only [h] at hx'
  simp only
  split
  · rfl
  · rename_i h1
    rw [if_neg h1] at hx'
    split
    · rfl
    · rename_i h2
      rw [if_neg h2] at hx'
      split
      · rfl
      · rename_i h3
        rw [if_neg h3] at hx'
        cases hx'
theorem nn_neg (x : Nat) (h : NN x) : NN (Op.negFloat .f64 x) := by
  refine nn_rung x _ ?_ h
  show x % 2 ^ 63 = (x ^^^ 2 ^ 63) % 2 ^ 63
  rw [Nat.xor_mod_two_pow, Nat.mod_self, Nat.xor_zero]
theorem mul_nn (x y : Nat) (hx : NN x) (hy : Nz y) : ∃ r, floatBits .mul .f64 x y = some r ∧ NN r := by
  obtain ⟨s, m, i, hy⟩ := hy
  have hx' : (double.read x).isNaN = false := hx
  have hy' : double.read y = .number s (m + 1) i := hy
  show ∃ r, ((double.read x).product (double.read y)).map double.write = some r ∧ NN r
  rw [hy']
  cases hd : double.read x with
  | number t n j => exact ⟨_, rfl, nn_write _ rfl⟩
  | infinity t => exact ⟨_, rfl, nn_write (.infinity (t ^^ s)) rfl⟩
  | nan t f => rw [hd] at hx'; cases hx'
theorem quo_nn (x y : Nat) (hx : NN x) (hy : Nz y) : ∃ r, floatBits .quo .f64 x y = some r ∧ NN r := by
  obtain ⟨s, m, i, hy⟩ := hy
  have hx' : (double.read x).isNaN = false := hx
  have hy' : double.read y = .number s (m + 1) i := hy
  show ∃ r, ((double.read x).quotient (double.fractionBits + 2) (double.read y)).map double.write = some r ∧ NN r
  rw [hy']
  cases hd : double.read x with
  | number t n j => exact ⟨_, rfl, nn_write _ rfl⟩
  | infinity t => exact ⟨_, rfl, nn_write (.infinity (t ^^ s)) rfl⟩
  | nan t f => rw [hd] at hx'; cases hx'
end Go.Proofs.YtcmhfeeocehlaaaGreatDoor
namespace Go.Proofs.YtcmhfeeocehlaaaGreatDoor
set_option linter.unusedSimpArgs false
set_option linter.unusedVariables false
open Go.RowKit
attribute [local go_sem ↓] Go.wp_at_zero Go.wp_at_succ

theorem run_negf (x : Nat) (w : World) : (Op.unary .neg (.float .f64 x)).run Tryz.prog w = .ok (.float .f64 (Op.negFloat .f64 x)) w := rfl
attribute [local go_sem] run_negf
theorem run_mul {x y r : Nat} (h : floatBits .mul .f64 x y = some r) (w : World) : (binOp .mul 74 (.float .f64 x) (.float .f64 y)).run Tryz.prog w = .ok (.float .f64 r) w := run_float_arith w .mul 74 .f64 x y r h
theorem run_quo {x y r : Nat} (h : floatBits .quo .f64 x y = some r) (w : World) : (binOp .quo 74 (.float .f64 x) (.float .f64 y)).run Tryz.prog w = .ok (.float .f64 r) w := run_float_arith w .quo 74 .f64 x y r h

set_option maxHeartbeats 4000000 in
set_option maxRecDepth 100000 in
theorem exact_pos (pw : Nat → Nat) (hz : ∀ i, i < 23 → Nz (pw i)) (m e : Int) : ∃ v ok, ∀ (w : World) (P O : Nat), w.cell? ⟨6, 0, none⟩ = some (.int .u64 52) → w.cell? ⟨9, 0, none⟩ = some (.slice (some ⟨P, O, none⟩) 23 23) → (∀ i, i < 23 → w.cell? ⟨P, O + i, none⟩ = some (.float .f64 (pw i))) →
    Calls Tryz.prog 127 #[.int .u64 m, .int .i64 e, .bool false] w fun e w' => e = .returned (.tuple #[.float .f64 v, .bool ok]) ∧ w' = w := by
  by_cases h1 : m / 4503599627370496 = 0
  · obtain ⟨f0, hf0⟩ : ∃ f, floatOfInt .f64 m = f := ⟨_, rfl⟩
    have hn0 : NN f0 := by rw [← hf0]; exact nn_int m
    have HN := hid hn0
    have HZ := hid hz
    clear hz hn0
    by_cases h2 : e = 0
    · subst h2
      apply Exists.intro
      apply Exists.intro
      intro w P O c6 c9 hp
      clear hp
      go_enter Tryz.func127, Tryz.ntmps127
      go_wp2
      go_ret2
      exact ⟨rfl, rfl⟩
    · by_cases h3 : 0 < e
      · by_cases h4 : e ≤ 37
        · by_cases h5 : 22 < e
          · obtain ⟨k, hk⟩ : ∃ k : Nat, e - 22 = k := ⟨(e - 22).toNat, by omega⟩
            have hk0 : k < 23 := by omega
            have hk1 : (0 : Int) ≤ e - 22 := by omega
            have hk2 : e - 22 < 23 := by omega
            have hk3 : (e - 22).toNat = k := by omega
            obtain ⟨r, hr, hrn⟩ := mul_nn f0 (pw k) HN.out (HZ.out k hk0)
            have hm := run_mul hr
            obtain ⟨r2, hr2, _⟩ := mul_nn r (pw 22) hrn (HZ.out 22 (by omega))
            have hm2 := run_mul hr2
            clear hr hr2 hrn
            cases h6 : FloatKind.f64.format.order r 4831355200913801216 == some .gt
            · cases h7 : FloatKind.f64.format.order r 14054727237768577024 == some .lt
              · apply Exists.intro
                apply Exists.intro
                intro w P O c6 c9 hp
                have hpk := hp k (by omega)
                have hp22 := hp 22 (by omega)
                clear hp
                go_enter Tryz.func127, Tryz.ntmps127
                go_wp2
                go_ret2
                exact ⟨rfl, rfl⟩
              · apply Exists.intro
                apply Exists.intro
                intro w P O c6 c9 hp
                have hpk := hp k (by omega)
                have hp22 := hp 22 (by omega)
                clear hp
                go_enter Tryz.func127, Tryz.ntmps127
                go_wp2
                go_ret2
                exact ⟨rfl, rfl⟩
            · apply Exists.intro
              apply Exists.intro
              intro w P O c6 c9 hp
              have hpk := hp k (by omega)
              have hp22 := hp 22 (by omega)
              clear hp
              go_enter Tryz.func127, Tryz.ntmps127
              go_wp2
              go_ret2
              exact ⟨rfl, rfl⟩
          · rw [Int.not_lt] at h5
            obtain ⟨k, hk⟩ : ∃ k : Nat, e = k := ⟨e.toNat, by omega⟩
            subst hk
            have hk0 : k < 23 := by omega
            obtain ⟨r2, hr2, _⟩ := mul_nn f0 (pw k) HN.out (HZ.out k hk0)
            have hm2 := run_mul hr2
            clear hr2
            cases h6 : FloatKind.f64.format.order f0 4831355200913801216 == some .gt
            · cases h7 : FloatKind.f64.format.order f0 14054727237768577024 == some .lt
              · apply Exists.intro
                apply Exists.intro
                intro w P O c6 c9 hp
                have hpk := hp k (by omega)
                clear hp
                go_enter Tryz.func127, Tryz.ntmps127
                go_wp2
                go_ret2
                exact ⟨rfl, rfl⟩
              · apply Exists.intro
                apply Exists.intro
                intro w P O c6 c9 hp
                have hpk := hp k (by omega)
                clear hp
                go_enter Tryz.func127, Tryz.ntmps127
                go_wp2
                go_ret2
                exact ⟨rfl, rfl⟩
            · apply Exists.intro
              apply Exists.intro
              intro w P O c6 c9 hp
              have hpk := hp k (by omega)
              clear hp
              go_enter Tryz.func127, Tryz.ntmps127
              go_wp2
              go_ret2
              exact ⟨rfl, rfl⟩
        · rw [Int.not_le] at h4
          apply Exists.intro
          apply Exists.intro
          intro w P O c6 c9 hp
          clear hp
          go_enter Tryz.func127, Tryz.ntmps127
          go_wp2
          go_ret2
          exact ⟨rfl, rfl⟩
      · rw [Int.not_lt] at h3
        have h8 : e < 0 := by omega
        clear h2 h3
        by_cases h4 : -22 ≤ e
        · obtain ⟨k, hk⟩ : ∃ k : Nat, -e = k := ⟨(-e).toNat, by omega⟩
          have hk0 : k < 23 := by omega
          have hk1 : (0 : Int) ≤ -e := by omega
          have hk2 : -e < 23 := by omega
          have hk3 : (-e).toNat = k := by omega
          obtain ⟨r2, hr2, _⟩ := quo_nn f0 (pw k) HN.out (HZ.out k hk0)
          have hm2 := run_quo hr2
          clear hr2
          apply Exists.intro
          apply Exists.intro
          intro w P O c6 c9 hp
          have hpk := hp k (by omega)
          clear hp
          go_enter Tryz.func127, Tryz.ntmps127
          go_wp2
          go_ret2
          exact ⟨rfl, rfl⟩
        · rw [Int.not_le] at h4
          apply Exists.intro
          apply Exists.intro
          intro w P O c6 c9 hp
          clear hp
          go_enter Tryz.func127, Tryz.ntmps127
          go_wp2
          go_ret2
          exact ⟨rfl, rfl⟩
  · apply Exists.intro
    apply Exists.intro
    intro w P O c6 c9 hp
    clear hp
    go_enter Tryz.func127, Tryz.ntmps127
    go_wp2
    go_ret2
    exact ⟨rfl, rfl⟩

set_option maxHeartbeats 4000000 in
set_option maxRecDepth 100000 in
theorem exact_neg (pw : Nat → Nat) (hz : ∀ i, i < 23 → Nz (pw i)) (m e : Int) : ∃ v ok, ∀ (w : World) (P O : Nat), w.cell? ⟨6, 0, none⟩ = some (.int .u64 52) → w.cell? ⟨9, 0, none⟩ = some (.slice (some ⟨P, O, none⟩) 23 23) → (∀ i, i < 23 → w.cell? ⟨P, O + i, none⟩ = some (.float .f64 (pw i))) →
    Calls Tryz.prog 127 #[.int .u64 m, .int .i64 e, .bool true] w fun e w' => e = .returned (.tuple #[.float .f64 v, .bool ok]) ∧ w' = w := by
  by_cases h1 : m / 4503599627370496 = 0
  · obtain ⟨f0, hf0⟩ : ∃ f, floatOfInt .f64 m = f := ⟨_, rfl⟩
    have hn0 : NN f0 := by rw [← hf0]; exact nn_int m
    obtain ⟨f1, hf1⟩ : ∃ f, Op.negFloat .f64 f0 = f := ⟨_, rfl⟩
    have hn1 : NN f1 := by rw [← hf1]; exact nn_neg _ hn0
    have HN := hid hn1
    have HZ := hid hz
    clear hz hn0 hn1
    by_cases h2 : e = 0
    · subst h2
      apply Exists.intro
      apply Exists.intro
      intro w P O c6 c9 hp
      clear hp
      go_enter Tryz.func127, Tryz.ntmps127
      go_wp2
      go_ret2
      exact ⟨rfl, rfl⟩
    · by_cases h3 : 0 < e
      · by_cases h4 : e ≤ 37
        · by_cases h5 : 22 < e
          · obtain ⟨k, hk⟩ : ∃ k : Nat, e - 22 = k := ⟨(e - 22).toNat, by omega⟩
            have hk0 : k < 23 := by omega
            have hk1 : (0 : Int) ≤ e - 22 := by omega
            have hk2 : e - 22 < 23 := by omega
            have hk3 : (e - 22).toNat = k := by omega
            obtain ⟨r, hr, hrn⟩ := mul_nn f1 (pw k) HN.out (HZ.out k hk0)
            have hm := run_mul hr
            obtain ⟨r2, hr2, _⟩ := mul_nn r (pw 22) hrn (HZ.out 22 (by omega))
            have hm2 := run_mul hr2
            clear hr hr2 hrn
            cases h6 : FloatKind.f64.format.order r 4831355200913801216 == some .gt
            · cases h7 : FloatKind.f64.format.order r 14054727237768577024 == some .lt
              · apply Exists.intro
                apply Exists.intro
                intro w P O c6 c9 hp
                have hpk := hp k (by omega)
                have hp22 := hp 22 (by omega)
                clear hp
                go_enter Tryz.func127, Tryz.ntmps127
                go_wp2
                go_ret2
                exact ⟨rfl, rfl⟩
              · apply Exists.intro
                apply Exists.intro
                intro w P O c6 c9 hp
                have hpk := hp k (by omega)
                have hp22 := hp 22 (by omega)
                clear hp
                go_enter Tryz.func127, Tryz.ntmps127
                go_wp2
                go_ret2
                exact ⟨rfl, rfl⟩
            · apply Exists.intro
              apply Exists.intro
              intro w P O c6 c9 hp
              have hpk := hp k (by omega)
              have hp22 := hp 22 (by omega)
              clear hp
              go_enter Tryz.func127, Tryz.ntmps127
              go_wp2
              go_ret2
              exact ⟨rfl, rfl⟩
          · rw [Int.not_lt] at h5
            obtain ⟨k, hk⟩ : ∃ k : Nat, e = k := ⟨e.toNat, by omega⟩
            subst hk
            have hk0 : k < 23 := by omega
            obtain ⟨r2, hr2, _⟩ := mul_nn f1 (pw k) HN.out (HZ.out k hk0)
            have hm2 := run_mul hr2
            clear hr2
            cases h6 : FloatKind.f64.format.order f1 4831355200913801216 == some .gt
            · cases h7 : FloatKind.f64.format.order f1 14054727237768577024 == some .lt
              · apply Exists.intro
                apply Exists.intro
                intro w P O c6 c9 hp
                have hpk := hp k (by omega)
                clear hp
                go_enter Tryz.func127, Tryz.ntmps127
                go_wp2
                go_ret2
                exact ⟨rfl, rfl⟩
              · apply Exists.intro
                apply Exists.intro
                intro w P O c6 c9 hp
                have hpk := hp k (by omega)
                clear hp
                go_enter Tryz.func127, Tryz.ntmps127
                go_wp2
                go_ret2
                exact ⟨rfl, rfl⟩
            · apply Exists.intro
              apply Exists.intro
              intro w P O c6 c9 hp
              have hpk := hp k (by omega)
              clear hp
              go_enter Tryz.func127, Tryz.ntmps127
              go_wp2
              go_ret2
              exact ⟨rfl, rfl⟩
        · rw [Int.not_le] at h4
          apply Exists.intro
          apply Exists.intro
          intro w P O c6 c9 hp
          clear hp
          go_enter Tryz.func127, Tryz.ntmps127
          go_wp2
          go_ret2
          exact ⟨rfl, rfl⟩
      · rw [Int.not_lt] at h3
        have h8 : e < 0 := by omega
        clear h2 h3
        by_cases h4 : -22 ≤ e
        · obtain ⟨k, hk⟩ : ∃ k : Nat, -e = k := ⟨(-e).toNat, by omega⟩
          have hk0 : k < 23 := by omega
          have hk1 : (0 : Int) ≤ -e := by omega
          have hk2 : -e < 23 := by omega
          have hk3 : (-e).toNat = k := by omega
          obtain ⟨r2, hr2, _⟩ := quo_nn f1 (pw k) HN.out (HZ.out k hk0)
          have hm2 := run_quo hr2
          clear hr2
          apply Exists.intro
          apply Exists.intro
          intro w P O c6 c9 hp
          have hpk := hp k (by omega)
          clear hp
          go_enter Tryz.func127, Tryz.ntmps127
          go_wp2
          go_ret2
          exact ⟨rfl, rfl⟩
        · rw [Int.not_le] at h4
          apply Exists.intro
          apply Exists.intro
          intro w P O c6 c9 hp
          clear hp
          go_enter Tryz.func127, Tryz.ntmps127
          go_wp2
          go_ret2
          exact ⟨rfl, rfl⟩
  · apply Exists.intro
    apply Exists.intro
    intro w P O c6 c9 hp
    clear hp
    go_enter Tryz.func127, Tryz.ntmps127
    go_wp2
    go_ret2
    exact ⟨rfl, rfl⟩

theorem exact_ex (pw : Nat → Nat) (hz : ∀ i, i < 23 → Nz (pw i)) (m e : Int) (ng : Bool) : ∃ v ok, ∀ (w : World) (P O : Nat), w.cell? ⟨6, 0, none⟩ = some (.int .u64 52) → w.cell? ⟨9, 0, none⟩ = some (.slice (some ⟨P, O, none⟩) 23 23) → (∀ i, i < 23 → w.cell? ⟨P, O + i, none⟩ = some (.float .f64 (pw i))) →
    Calls Tryz.prog 127 #[.int .u64 m, .int .i64 e, .bool ng] w fun e w' => e = .returned (.tuple #[.float .f64 v, .bool ok]) ∧ w' = w := by
  cases ng
  · exact exact_pos pw hz m e
  · exact exact_neg pw hz m e
end Go.Proofs.YtcmhfeeocehlaaaGreatDoor
