/-
  word: what is reckoned with words and reals: each answers by its arguments alone. Made by gen_wsmall.py.
-/
import Derived.Test.YtoidddfpekbliaaGreatWJ00
import Derived.Laws.FloatArith
import Derived.Laws.MathBits
import Derived.Test.YtoidddfpekbliaaGreatWJ01
import Derived.Test.YtoidddfpekbliaaGreatWUses
namespace Go.Proofs.YtoidddfpekbliaaGreat
set_option linter.unusedSimpArgs false
set_option linter.unusedVariables false
open Go.RowKit
attribute [local go_sem ↓] Go.wp_at_zero Go.wp_at_succ

theorem u64_of_wrap (x : Int) : U64 (IntKind.u64.wrap x) := by
  have h := bounds_u64 (wf_wrap .u64 x)
  exact ⟨h.1, h.2⟩
theorem u64_zero : U64 0 := ⟨by omega, by omega⟩
theorem u64_cond (b : Bool) : U64 (cond b 1 0) := by cases b <;> exact ⟨by simp, by simp⟩
theorem u64_nat {a : Int} (h : U64 a) : ∃ n : Nat, a = n ∧ n < 18446744073709551616 := ⟨a.toNat, by have := h.1; omega, by have := h.1; have := h.2; omega⟩
theorem u64_bits (op : BinOp) (a b : Int) : U64 (bits op .u64 a b) := by
  have h := bounds_u64 (wf_bits op .u64 a b)
  exact ⟨h.1, h.2⟩
theorem u64_of_nat {q : Nat} (h : q < 18446744073709551616) : U64 (q : Int) := ⟨by omega, by omega⟩
theorem u64_rem_ok {a b : Int} (ha : U64 a) (hb : U64 b) : U64 (a.tmod b) := by
  obtain ⟨n, rfl, hn⟩ := u64_nat ha
  obtain ⟨m, rfl, hm⟩ := u64_nat hb
  have h := Nat.mod_le n m
  rw [Int.tmod_eq_emod_of_nonneg (by omega), ← Int.natCast_emod]
  exact u64_of_nat (Nat.lt_of_le_of_lt h hn)
theorem u64_shr_ok {a : Int} (ha : U64 a) (k : Nat) : U64 (a / (2 ^ k : Nat)) := by
  obtain ⟨n, rfl, hn⟩ := u64_nat ha
  have h := Nat.div_le_self n (2 ^ k)
  rw [← Int.natCast_ediv]
  exact u64_of_nat (Nat.lt_of_le_of_lt h hn)
theorem f64_lt {x : Nat} (h : (Lit.float .f64 x).wf = true) : x < 18446744073709551616 := by
  simpa [Lit.wf] using h

theorem ffb_run (x : Int) (w : World) : (callFunc 147 #[.int .u64 x]).run Tryz.prog w = .ok (.value (.float .f64 x.toNat)) w := by
  rw [run_callFunc_extern Tryz.func147 (by kernel_rfl) (by kernel_rfl) (by kernel_rfl) (e := Extern.MathFloatBits.float64frombits) (by kernel_rfl)]
  rfl
theorem fbits_run (x : Nat) (w : World) : (callFunc 160 #[.float .f64 x]).run Tryz.prog w = .ok (.value (.int .u64 x)) w := by
  rw [run_callFunc_extern Tryz.func160 (by kernel_rfl) (by kernel_rfl) (by kernel_rfl) (e := Extern.MathFloatBits.float64bits) (by kernel_rfl)]
  rfl
attribute [local go_sem] ffb_run fbits_run

theorem isNaN_raw (x : Nat) (w : World) : Calls Tryz.prog 159 #[.float .f64 x] w fun e w' => e = .returned (.bool (FloatKind.f64.format.order x x != some .eq)) ∧ w' = w := by
  go_enter Tryz.func159, Tryz.ntmps159
  go_wp2
  go_ret
  exact ⟨rfl, rfl⟩

theorem realBits_ex (x : Nat) : ∃ v, (x < 18446744073709551616 → U64 v) ∧ ∀ w, Calls Tryz.prog 148 #[.float .f64 x] w fun e w' => e = .returned (.int .u64 v) ∧ w' = w := by
  cases hn : (FloatKind.f64.format.order x x != some .eq)
  · refine ⟨(x : Int), fun h => ⟨by omega, by omega⟩, fun w => ?_⟩
    go_enter Tryz.func148, Tryz.ntmps148
    go_wp2_with (go_at_call 159; refine (isNaN_raw _ _).mono ?_; rw [hn]; rintro e w' ⟨rfl, rfl⟩)
    go_ret
    exact ⟨rfl, rfl⟩
  · refine ⟨9221120237041090560, fun _ => ⟨by omega, by omega⟩, fun w => ?_⟩
    go_enter Tryz.func148, Tryz.ntmps148
    go_wp2_with (go_at_call 159; refine (isNaN_raw _ _).mono ?_; rw [hn]; rintro e w' ⟨rfl, rfl⟩)
    go_ret
    exact ⟨rfl, rfl⟩

theorem realBits_nan (x : Nat) (hn : (FloatKind.f64.format.order x x != some .eq) = true) (w : World) : Calls Tryz.prog 148 #[.float .f64 x] w fun e w' => e = .returned (.int .u64 9221120237041090560) ∧ w' = w := by
  go_enter Tryz.func148, Tryz.ntmps148
  go_wp2_with (go_at_call 159; refine (isNaN_raw _ _).mono ?_; rw [hn]; rintro e w' ⟨rfl, rfl⟩)
  go_ret
  exact ⟨rfl, rfl⟩

theorem fsw : FloatKind.f64.format.signWeight = 9223372036854775808 := by decide
theorem fbn : FloatKind.f64.format.binade = 4503599627370496 := by decide
theorem fir : FloatKind.f64.format.infRung = 9218868437227405312 := by decide
theorem nan_read0 (F : Ieee.Format) (s b i n : Nat) (e1 : F.signWeight = s) (e2 : F.binade = b) (e3 : F.infRung = i) (hb : b ≤ i) (h : i < n % s) : ∃ g t, F.read n = .nan g t := by
  unfold Ieee.Format.read
  simp only [e1, e2, e3]
  rw [if_neg (by omega), if_neg (by omega), if_neg (by omega)]
  exact ⟨_, _, rfl⟩
theorem nan_read (n : Nat) (h : 9218868437227405312 < n % 9223372036854775808) : ∃ g t, FloatKind.f64.format.read n = .nan g t :=
  nan_read0 _ _ _ _ n fsw fbn fir (by decide) h
theorem order_nan (F : Ieee.Format) (n : Nat) (g : Bool) (t : Nat) (e : F.read n = .nan g t) : F.order n n = none := by
  unfold Ieee.Format.order
  rw [e]
  rfl
theorem nan_num (a b : Nat) (h1 : a < 2) (h2 : b < 4503599627370495) : 9218868437227405312 < (a * 9223372036854775808 + 9218868437227405312 + 1 + b) % 9223372036854775808 := by omega
/-- the bits that the tape gives to a NaN -/
def nanb (x y : Nat) (w : World) : Nat := Question.cut (.nanBits .f64 x y) (w.tape w.drawn (.nanBits .f64 x y))
theorem nanb_eq (x y : Nat) (w : World) : ∃ a b, a < 2 ∧ b < 4503599627370495 ∧ nanb x y w = a * 9223372036854775808 + 9218868437227405312 + 1 + b := by
  unfold nanb
  generalize w.tape w.drawn (.nanBits .f64 x y) = t
  exact ⟨t % 2, (t / 2) % 4503599627370495, Nat.mod_lt _ (by decide), Nat.mod_lt _ (by decide), by simp only [Question.cut]⟩
theorem nanb_nan (x y : Nat) (w : World) : (FloatKind.f64.format.order (nanb x y w) (nanb x y w) != some .eq) = true := by
  obtain ⟨a, b, h1, h2, e⟩ := nanb_eq x y w
  have hh : 9218868437227405312 < nanb x y w % 9223372036854775808 := by rw [e]; exact nan_num a b h1 h2
  clear e
  generalize nanb x y w = n at hh ⊢
  obtain ⟨g, t, e⟩ := nan_read n hh
  rw [order_nan _ _ _ _ e]
  rfl
theorem run_nan (op : BinOp) (t : TypeId) (x y : Nat) (h : floatBits op .f64 x y = none) (ho : op = .add ∨ op = .sub ∨ op = .mul ∨ op = .quo) (w : World) : (binOp op t (.float .f64 x) (.float .f64 y)).run Tryz.prog w = .ok (.float .f64 (nanb x y w)) w.drew := by
  unfold floatBits at h
  rcases ho with rfl | rfl | rfl | rfl <;> simp only at h <;> simp [binOp, Op.floatArith, h, Question.forced, nanb]

theorem mul64_ex (a b : Int) : ∃ hi lo, (U64 a → U64 b → U64 hi) ∧ ∀ w, Calls Tryz.prog 153 #[.int .u64 a, .int .u64 b] w fun e w' => e = .returned (.tuple #[.int .u64 hi, .int .u64 lo]) ∧ w' = w := by
  apply Exists.intro
  apply Exists.intro
  refine ⟨?bd, ?wk⟩
  case wk =>
    intro w
    go_enter Tryz.func153, Tryz.ntmps153
    go_wp2
    go_ret2
    exact ⟨rfl, rfl⟩
  case bd =>
    intro ha hb
    exact u64_of_wrap _

set_option maxHeartbeats 4000000 in
theorem ofWords_ex (k a b : Int) (h0 : 0 ≤ b) : ∃ v f, (U64 a → U64 b → U64 v) ∧ ∀ w, Calls Tryz.prog 129 #[.int .i64 k, .int .u64 a, .int .u64 b] w fun e w' => e = .returned (.tuple #[.int .u64 v, .bool f]) ∧ w' = w := by
  by_cases h0 : k = 3
  · subst h0
    apply Exists.intro
    apply Exists.intro
    refine ⟨?bd, ?wk⟩
    case wk =>
      intro w
      go_enter Tryz.func129, Tryz.ntmps129
      go_wp2
      go_ret2
      exact ⟨rfl, rfl⟩
    case bd =>
      intro ha hb
      exact u64_of_wrap _
  · have hc0 : (k == 3) = false := by simpa using h0
    by_cases h1 : k = 4
    · subst h1
      apply Exists.intro
      apply Exists.intro
      refine ⟨?bd, ?wk⟩
      case wk =>
        intro w
        go_enter Tryz.func129, Tryz.ntmps129
        go_wp2
        go_ret2
        exact ⟨rfl, rfl⟩
      case bd =>
        intro ha hb
        exact u64_of_wrap _
    · have hc1 : (k == 4) = false := by simpa using h1
      by_cases h2 : k = 5
      · subst h2
        apply Exists.intro
        apply Exists.intro
        refine ⟨?bd, ?wk⟩
        case wk =>
          intro w
          go_enter Tryz.func129, Tryz.ntmps129
          go_wp2
          go_ret2
          exact ⟨rfl, rfl⟩
        case bd =>
          intro ha hb
          exact u64_of_wrap _
      · have hc2 : (k == 5) = false := by simpa using h2
        by_cases h3 : k = 6
        · subst h3
          obtain ⟨hi, lo, hb6, hm⟩ := mul64_ex a b
          apply Exists.intro
          apply Exists.intro
          refine ⟨?bd, ?wk⟩
          case wk =>
            intro w
            go_enter Tryz.func129, Tryz.ntmps129
            go_wp2_with (go_at_call 153; refine (hm _).mono ?_; rintro e w' ⟨rfl, rfl⟩)
            go_ret2
            exact ⟨rfl, rfl⟩
          case bd =>
            intro ha hb
            exact hb6 ha hb
        · have hc3 : (k == 6) = false := by simpa using h3
          by_cases h4 : k = 9
          · subst h4
            apply Exists.intro
            apply Exists.intro
            refine ⟨?bd, ?wk⟩
            case wk =>
              intro w
              go_enter Tryz.func129, Tryz.ntmps129
              go_wp2
              go_ret2
              exact ⟨rfl, rfl⟩
            case bd =>
              intro ha hb
              exact u64_bits _ _ _
          · have hc4 : (k == 9) = false := by simpa using h4
            by_cases h5 : k = 10
            · subst h5
              apply Exists.intro
              apply Exists.intro
              refine ⟨?bd, ?wk⟩
              case wk =>
                intro w
                go_enter Tryz.func129, Tryz.ntmps129
                go_wp2
                go_ret2
                exact ⟨rfl, rfl⟩
              case bd =>
                intro ha hb
                exact u64_bits _ _ _
            · have hc5 : (k == 10) = false := by simpa using h5
              by_cases h6 : k = 11
              · subst h6
                apply Exists.intro
                apply Exists.intro
                refine ⟨?bd, ?wk⟩
                case wk =>
                  intro w
                  go_enter Tryz.func129, Tryz.ntmps129
                  go_wp2
                  go_ret2
                  exact ⟨rfl, rfl⟩
                case bd =>
                  intro ha hb
                  exact u64_bits _ _ _
              · have hc6 : (k == 11) = false := by simpa using h6
                by_cases h7 : k = 12
                · subst h7
                  apply Exists.intro
                  apply Exists.intro
                  refine ⟨?bd, ?wk⟩
                  case wk =>
                    intro w
                    go_enter Tryz.func129, Tryz.ntmps129
                    go_wp2
                    go_ret2
                    exact ⟨rfl, rfl⟩
                  case bd =>
                    intro ha hb
                    first | exact u64_of_wrap _ | exact u64_shr_ok ha _
                · have hc7 : (k == 12) = false := by simpa using h7
                  by_cases h8 : k = 13
                  · subst h8
                    apply Exists.intro
                    apply Exists.intro
                    refine ⟨?bd, ?wk⟩
                    case wk =>
                      intro w
                      go_enter Tryz.func129, Tryz.ntmps129
                      go_wp2
                      go_ret2
                      exact ⟨rfl, rfl⟩
                    case bd =>
                      intro ha hb
                      first | exact u64_of_wrap _ | exact u64_shr_ok ha _
                  · have hc8 : (k == 13) = false := by simpa using h8
                    by_cases h9 : k = 14
                    · subst h9
                      apply Exists.intro
                      apply Exists.intro
                      refine ⟨?bd, ?wk⟩
                      case wk =>
                        intro w
                        go_enter Tryz.func129, Tryz.ntmps129
                        go_wp2
                        go_ret2
                        exact ⟨rfl, rfl⟩
                      case bd =>
                        intro ha hb
                        first | exact u64_of_wrap _ | exact u64_shr_ok ha _
                    · have hc9 : (k == 14) = false := by simpa using h9
                      by_cases h10 : k = 7
                      · subst h10
                        by_cases hb : b = 0
                        · subst hb
                          apply Exists.intro
                          apply Exists.intro
                          refine ⟨?bd, ?wk⟩
                          case wk =>
                            intro w
                            go_enter Tryz.func129, Tryz.ntmps129
                            go_wp2
                            go_ret2
                            exact ⟨rfl, rfl⟩
                          case bd =>
                            intro ha hb
                            exact u64_zero
                        · have hb2 : (b == 0) = false := by simpa using hb
                          apply Exists.intro
                          apply Exists.intro
                          refine ⟨?bd, ?wk⟩
                          case wk =>
                            intro w
                            go_enter Tryz.func129, Tryz.ntmps129
                            go_wp2
                            go_ret2
                            exact ⟨rfl, rfl⟩
                          case bd =>
                            intro ha hb
                            exact u64_of_wrap _
                      · have hc10 : (k == 7) = false := by simpa using h10
                        by_cases h11 : k = 8
                        · subst h11
                          by_cases hb : b = 0
                          · subst hb
                            apply Exists.intro
                            apply Exists.intro
                            refine ⟨?bd, ?wk⟩
                            case wk =>
                              intro w
                              go_enter Tryz.func129, Tryz.ntmps129
                              go_wp2
                              go_ret2
                              exact ⟨rfl, rfl⟩
                            case bd =>
                              intro ha hb
                              exact u64_zero
                          · have hb2 : (b == 0) = false := by simpa using hb
                            apply Exists.intro
                            apply Exists.intro
                            refine ⟨?bd, ?wk⟩
                            case wk =>
                              intro w
                              go_enter Tryz.func129, Tryz.ntmps129
                              go_wp2
                              go_ret2
                              exact ⟨rfl, rfl⟩
                            case bd =>
                              intro ha hb
                              exact u64_rem_ok ha hb
                        · have hc11 : (k == 8) = false := by simpa using h11
                          apply Exists.intro
                          apply Exists.intro
                          refine ⟨?bd, ?wk⟩
                          case wk =>
                            intro w
                            go_enter Tryz.func129, Tryz.ntmps129
                            go_wp2
                            go_ret2
                            exact ⟨rfl, rfl⟩
                          case bd =>
                            intro ha hb
                            exact u64_zero

set_option maxHeartbeats 4000000 in
theorem ofReals_ex (k x y : Int) : ∃ v n, U64 v ∧ ∀ w, Calls Tryz.prog 126 #[.int .i64 k, .int .u64 x, .int .u64 y] w fun e w' => e = .returned (.int .u64 v) ∧ w' = w.drewN n := by
  by_cases h0 : k = 1
  · subst h0
    cases hf : floatBits .add .f64 x.toNat y.toNat with
    | some r =>
      have hr := fun (w : World) (t : TypeId) => run_float_arith (P := Tryz.prog) w .add t .f64 x.toNat y.toNat r hf
      obtain ⟨v, hvb, hv⟩ := realBits_ex r
      refine ⟨v, 0, hvb (f64_lt (floatBits_wf hf)), fun w => ?_⟩
      go_enter Tryz.func126, Tryz.ntmps126
      go_wp2_with (go_at_call 148; refine (hv _).mono ?_; rintro e w' ⟨rfl, rfl⟩)
      go_ret
      exact ⟨rfl, rfl⟩
    | none =>
      have hr := fun (w : World) (t : TypeId) => run_nan .add t x.toNat y.toNat hf (by simp) w
      refine ⟨9221120237041090560, 1, ⟨by omega, by omega⟩, fun w => ?_⟩
      go_enter Tryz.func126, Tryz.ntmps126
      go_wp2_with (go_at_call 148; refine (realBits_nan _ (nanb_nan _ _ _) _).mono ?_; rintro e w' ⟨rfl, rfl⟩)
      go_ret
      exact ⟨rfl, rfl⟩
  · have hc0 : (k == 1) = false := by simpa using h0
    by_cases h1 : k = 2
    · subst h1
      cases hf : floatBits .sub .f64 x.toNat y.toNat with
      | some r =>
        have hr := fun (w : World) (t : TypeId) => run_float_arith (P := Tryz.prog) w .sub t .f64 x.toNat y.toNat r hf
        obtain ⟨v, hvb, hv⟩ := realBits_ex r
        refine ⟨v, 0, hvb (f64_lt (floatBits_wf hf)), fun w => ?_⟩
        go_enter Tryz.func126, Tryz.ntmps126
        go_wp2_with (go_at_call 148; refine (hv _).mono ?_; rintro e w' ⟨rfl, rfl⟩)
        go_ret
        exact ⟨rfl, rfl⟩
      | none =>
        have hr := fun (w : World) (t : TypeId) => run_nan .sub t x.toNat y.toNat hf (by simp) w
        refine ⟨9221120237041090560, 1, ⟨by omega, by omega⟩, fun w => ?_⟩
        go_enter Tryz.func126, Tryz.ntmps126
        go_wp2_with (go_at_call 148; refine (realBits_nan _ (nanb_nan _ _ _) _).mono ?_; rintro e w' ⟨rfl, rfl⟩)
        go_ret
        exact ⟨rfl, rfl⟩
    · have hc1 : (k == 2) = false := by simpa using h1
      by_cases h2 : k = 3
      · subst h2
        cases hf : floatBits .mul .f64 x.toNat y.toNat with
        | some r =>
          have hr := fun (w : World) (t : TypeId) => run_float_arith (P := Tryz.prog) w .mul t .f64 x.toNat y.toNat r hf
          obtain ⟨v, hvb, hv⟩ := realBits_ex r
          refine ⟨v, 0, hvb (f64_lt (floatBits_wf hf)), fun w => ?_⟩
          go_enter Tryz.func126, Tryz.ntmps126
          go_wp2_with (go_at_call 148; refine (hv _).mono ?_; rintro e w' ⟨rfl, rfl⟩)
          go_ret
          exact ⟨rfl, rfl⟩
        | none =>
          have hr := fun (w : World) (t : TypeId) => run_nan .mul t x.toNat y.toNat hf (by simp) w
          refine ⟨9221120237041090560, 1, ⟨by omega, by omega⟩, fun w => ?_⟩
          go_enter Tryz.func126, Tryz.ntmps126
          go_wp2_with (go_at_call 148; refine (realBits_nan _ (nanb_nan _ _ _) _).mono ?_; rintro e w' ⟨rfl, rfl⟩)
          go_ret
          exact ⟨rfl, rfl⟩
      · have hc2 : (k == 3) = false := by simpa using h2
        by_cases h3 : k = 4
        · subst h3
          cases hf : floatBits .quo .f64 x.toNat y.toNat with
          | some r =>
            have hr := fun (w : World) (t : TypeId) => run_float_arith (P := Tryz.prog) w .quo t .f64 x.toNat y.toNat r hf
            obtain ⟨v, hvb, hv⟩ := realBits_ex r
            refine ⟨v, 0, hvb (f64_lt (floatBits_wf hf)), fun w => ?_⟩
            go_enter Tryz.func126, Tryz.ntmps126
            go_wp2_with (go_at_call 148; refine (hv _).mono ?_; rintro e w' ⟨rfl, rfl⟩)
            go_ret
            exact ⟨rfl, rfl⟩
          | none =>
            have hr := fun (w : World) (t : TypeId) => run_nan .quo t x.toNat y.toNat hf (by simp) w
            refine ⟨9221120237041090560, 1, ⟨by omega, by omega⟩, fun w => ?_⟩
            go_enter Tryz.func126, Tryz.ntmps126
            go_wp2_with (go_at_call 148; refine (realBits_nan _ (nanb_nan _ _ _) _).mono ?_; rintro e w' ⟨rfl, rfl⟩)
            go_ret
            exact ⟨rfl, rfl⟩
        · have hc3 : (k == 4) = false := by simpa using h3
          by_cases h4 : k = 5
          · subst h4
            refine ⟨cond (FloatKind.f64.format.order x.toNat y.toNat == some .lt) 1 0, 0, u64_cond _, fun w => ?_⟩
            go_enter Tryz.func126, Tryz.ntmps126
            go_wp2_with (go_at_call 125; refine (one_raw _ _).mono ?_; rintro e w' ⟨rfl, rfl⟩)
            go_ret
            exact ⟨rfl, rfl⟩
          · have hc4 : (k == 5) = false := by simpa using h4
            by_cases h5 : k = 6
            · subst h5
              refine ⟨cond (FloatKind.f64.format.order x.toNat y.toNat == some .lt || FloatKind.f64.format.order x.toNat y.toNat == some .eq) 1 0, 0, u64_cond _, fun w => ?_⟩
              go_enter Tryz.func126, Tryz.ntmps126
              go_wp2_with (go_at_call 125; refine (one_raw _ _).mono ?_; rintro e w' ⟨rfl, rfl⟩)
              go_ret
              exact ⟨rfl, rfl⟩
            · have hc5 : (k == 6) = false := by simpa using h5
              by_cases h6 : k = 7
              · subst h6
                refine ⟨cond (FloatKind.f64.format.order x.toNat y.toNat == some .eq) 1 0, 0, u64_cond _, fun w => ?_⟩
                go_enter Tryz.func126, Tryz.ntmps126
                go_wp2_with (go_at_call 125; refine (one_raw _ _).mono ?_; rintro e w' ⟨rfl, rfl⟩)
                go_ret
                exact ⟨rfl, rfl⟩
              · have hc6 : (k == 7) = false := by simpa using h6
                obtain ⟨v, hvb, hv⟩ := realBits_ex (floatOfInt .f64 (wrap64 x))
                refine ⟨v, 0, hvb (f64_lt (floatOfInt_wf .f64 _)), fun w => ?_⟩
                go_enter Tryz.func126, Tryz.ntmps126
                go_wp2_with (go_at_call 148; refine (hv _).mono ?_; rintro e w' ⟨rfl, rfl⟩)
                go_ret
                exact ⟨rfl, rfl⟩

end Go.Proofs.YtoidddfpekbliaaGreat
namespace Go.Proofs.YtoidddfpekbliaaGreat
set_option linter.unusedSimpArgs false
set_option linter.unusedVariables false
open Go.RowKit
attribute [local go_sem ↓] Go.wp_at_zero Go.wp_at_succ

/-- a block of n cells that may be written -/
structure CB (w : World) (g n : Nat) (c : Nat → Value) : Prop where
  lt : g < w.heap.size
  cell : ∀ i, i < n → w.cell? ⟨g, i, none⟩ = some (c i)
  froz : ∀ i, w.frozen? ⟨g, i, none⟩ = false
theorem CB.set {w : World} {g n : Nat} {c : Nat → Value} (h : CB w g n c) (j : Nat) (hj : j < n) (v : Value) : CB (w.setCell ⟨g, j, none⟩ v) g n (upd c j v) := by
  refine ⟨by simpa using h.lt, fun i hi => ?_, fun i => by rw [World.frozen?_setCell]; exact h.froz i⟩
  by_cases e : i = j
  · subst e
    rw [World.cell?_setCell_same w _ _ (h.cell i hi), upd_same]
  · rw [World.cell?_setCell_other w _ _ _ (by intro h; cases h; exact e rfl), upd_other _ _ e]
    exact h.cell i hi
theorem CB.kept {w w' : World} {g n : Nat} {c : Nat → Value} (h : CB w g n c) (hk : w'.heap[g]? = w.heap[g]?) : CB w' g n c := by
  refine ⟨?_, fun i hi => ?_, fun i => ?_⟩
  · have : w.heap[g]? = some (w.heap[g]'h.lt) := Array.getElem?_eq_getElem h.lt
    rw [this] at hk
    exact (Array.getElem?_eq_some_iff.1 hk).1
  · rw [World.cell?_of_block (w := w) (a := ⟨g, i, none⟩) hk]; exact h.cell i hi
  · rw [World.frozen?_of_block (w := w) (a := ⟨g, i, none⟩) hk]; exact h.froz i
theorem CB.congr {w : World} {g n : Nat} {c d : Nat → Value} (h : CB w g n c) (e : ∀ i, i < n → c i = d i) : CB w g n d :=
  ⟨h.lt, fun i hi => by rw [← e i hi]; exact h.cell i hi, h.froz⟩
theorem CB.new (w : World) (C : Array Value) (t : TypeId) : CB (w.alloc (.cells C t)) w.heap.size C.size (fun i => (C[i]?).getD undef) := by
  have hh : (w.alloc (.cells C t)).heap[w.heap.size]? = some (.cells C t (0, 0)) := heap_alloc_new w (.cells C t)
  refine ⟨by simp, fun i hi => ?_, fun i => ?_⟩
  · have : (w.alloc (.cells C t)).cell? ⟨w.heap.size, i, none⟩ = C[i]? := World.cell?_alloc_mark w _ _ _ i
    rw [this, Array.getElem?_eq_getElem hi]; rfl
  · simp only [World.frozen?, hh]; simp

/-- a pointer to a block, or nil -/
def pv : Option Nat → Value
  | none => .pointer none
  | some g => .pointer (some ⟨g, 0, none⟩)

/-- a map from words to pointers -/
def MP (tk : TypeId) (w : World) (mo : Option Nat) (N : Nat) (f : Nat → Option Nat) : Prop :=
  (mo = none ∧ ∀ k, f k = none) ∨ ∃ b n D, mo = some b ∧ n ≤ N ∧ w.ownsMap Tryz.prog tk rawElem b n D ∧ ∀ k : Nat, k < 18446744073709551616 → Maps.has D (.int .u64 k) = (f k).isSome ∧
    ∀ g, f k = some g → D.atKey (.int .u64 k) (.held (.pointer none)) = .held (pv (some g))

theorem u64wf {k : Nat} (h : k < 18446744073709551616) : (Lit.int .u64 (k : Int)).wf = true := by
  exact WalkArith.wf_u64 (by omega)

theorem MP.kept {tk : TypeId} {w w' : World} {mo : Option Nat} {N : Nat} {f : Nat → Option Nat} (h : MP tk w mo N f) (hk : ∀ b, mo = some b → w'.heap[b]? = w.heap[b]?) : MP tk w' mo N f := by
  rcases h with h | ⟨b, n, D, e, hn, hown, hf⟩
  · exact .inl h
  · obtain ⟨es, clock, h1, r⟩ := hown
    exact .inr ⟨b, n, D, e, hn, ⟨es, clock, (hk b e).trans h1, r⟩, hf⟩

theorem mp_look {tk te tm : TypeId} {w : World} {mo : Option Nat} {N : Nat} {f : Nat → Option Nat} (h : MP tk w mo N f) (hk : Tryz.prog.underlying tk = some (.int .u64)) (ht : Tryz.prog.underlying tm = some (.map tk te))
    (hz : (zeroValue te).run Tryz.prog w = .ok (.pointer none) w) (k : Nat) (hkk : k < 18446744073709551616) : (Instr.lookup tm (.map mo) (.int .u64 k) false).run Tryz.prog w = .ok (pv (f k)) w := by
  have law := Maps.int_keyed (P := Tryz.prog) hk
  have hkey := Maps.keyOf_int_mk (P := Tryz.prog) hk (u64wf hkk)
  rcases h with ⟨rfl, hf⟩ | ⟨b, n, D, rfl, hn, hown, hf⟩
  · rw [hf]
    exact Maps.look_nil (P := Tryz.prog) (w := w) false law ht hz hkey
  · obtain ⟨v, ps, hr, hv⟩ := hown.lookup law ht hz (zd := .held (.pointer none)) (zp := []) rfl hkey
    simp only [rawElem, Option.some.injEq, Prod.mk.injEq] at hv
    rw [hr]
    cases e : f k with
    | none =>
      have hno : Maps.has D (.int .u64 k) = false := by rw [(hf k hkk).1, e]; rfl
      have := Maps.atKey_of_not_has hno (.held (.pointer none))
      rw [this] at hv
      cases hv.1; rfl
    | some g =>
      have := (hf k hkk).2 g e
      rw [this] at hv
      cases hv.1; rfl

theorem mp_store {tk te tm : TypeId} {w : World} {b N : Nat} {f : Nat → Option Nat} (h : MP tk w (some b) N f) (hN : N < maxLen) (hk : Tryz.prog.underlying tk = some (.int .u64)) (ht : Tryz.prog.underlying tm = some (.map tk te)) (k : Nat) (hkk : k < 18446744073709551616) (g : Nat) :
    ∃ w', (Instr.mapUpdate tm (.map (some b)) (.int .u64 k) (pv (some g))).run Tryz.prog w = .ok () w' ∧ MP tk w' (some b) (N + 1) (upd f k (some g)) ∧ w.grownBy w' (some b) := by
  have law := Maps.int_keyed (P := Tryz.prog) hk
  have hkey := Maps.keyOf_int_mk (P := Tryz.prog) hk (u64wf hkk)
  rcases h with ⟨h, _⟩ | ⟨b', n, D, e, hn, hown, hf⟩
  · cases h
  · cases e
    obtain ⟨w', hr, hown', hg⟩ := hown.update law ht (Nat.lt_of_le_of_lt hn hN) (d := .held (pv (some g))) (ps := []) hkey rfl
    have hkl : WideAt.IsKeyLit (.int .u64 k) := law.key hkey
    refine ⟨w', hr, .inr ⟨b, n + 1, _, rfl, by omega, hown', fun x hx => ?_⟩, hg⟩
    by_cases e : x = k
    · subst e
      rw [upd_same]
      exact ⟨by rw [Maps.has_put_same hown.isMap hkl]; rfl, fun g' h' => by cases h'; exact Maps.atKey_put_same hown.isMap hkl _ _⟩
    · rw [upd_other _ _ e]
      have hne : Lit.int .u64 (x : Int) ≠ .int .u64 (k : Int) := fun h => e (by cases h; rfl)
      exact ⟨by rw [Maps.has_put_other hne]; exact (hf x hx).1, fun g' h' => by rw [Maps.atKey_put_other hne]; exact (hf x hx).2 g' h'⟩

/-- a map of one entry that has just been made -/
theorem mp_made (tk : TypeId) (w : World) (N : Nat) : MP tk (w.alloc (.map #[] 0)) (some w.heap.size) N (fun _ => none) :=
  .inr ⟨w.heap.size, 0, .map [], rfl, Nat.zero_le _, World.ownsMap_made w Tryz.prog tk rawElem, fun _ _ => ⟨rfl, fun _ h => by cases h⟩⟩

/-- a look-up, at the operation -/
theorem wpList_lookw (w : World) {tm : TypeId} {ops : Array Oper} {rest : List Oper} {o : Oper} {a : Act} {Q : Exit → Act → World → Prop} (hg : o.guard = none) (m x : Operand) (c : Bool) (hop : o.op = Op.lookup tm m x c)
    (mo : Option Nat) (hm : a.eval m = .map mo) (k : Value) (hx : a.eval x = k) (r : Value) (hrun : (Instr.lookup tm (.map mo) k c).run Tryz.prog w = .ok r w)
    (hK : wpList Tryz.prog ops Q rest (a.put o.dst r) w) : wpList Tryz.prog ops Q (o :: rest) a w := by
  refine wpList_plain hg fun K' hK' => ?_
  unfold Oper.wp
  simp [execOp, hop, hm, hx, hrun, Result.andThen]
  exact hK' _ _ hK
/-- 'm[k] = v' at the operation -/
theorem wpList_putw (w : World) {tm : TypeId} {ops : Array Oper} {rest : List Oper} {o : Oper} {a : Act} {Q : Exit → Act → World → Prop} (hg : o.guard = none) (m x y : Operand) (hop : o.op = Op.mapUpdate tm m x y)
    (mo : Option Nat) (hm : a.eval m = .map mo) (k : Value) (hx : a.eval x = k) (v : Value) (hy : a.eval y = v) (w' : World) (hrun : (Instr.mapUpdate tm (.map mo) k v).run Tryz.prog w = .ok () w')
    (hK : wpList Tryz.prog ops Q rest (a.put o.dst undef) w') : wpList Tryz.prog ops Q (o :: rest) a w := by
  refine wpList_plain hg fun K' hK' => ?_
  unfold Oper.wp
  simp [execOp, hop, hm, hx, hy, hrun, Result.andThen]
  exact hK' _ _ hK

theorem mp_mono {tk : TypeId} {w : World} {mo : Option Nat} {N M : Nat} {f : Nat → Option Nat} (h : MP tk w mo N f) (hN : N ≤ M) : MP tk w mo M f := by
  rcases h with h | ⟨b, n, D, e, hn, r⟩
  · exact .inl h
  · exact .inr ⟨b, n, D, e, Nat.le_trans hn hN, r⟩
end Go.Proofs.YtoidddfpekbliaaGreat
namespace Go.Proofs.YtoidddfpekbliaaGreat
set_option linter.unusedSimpArgs false
set_option linter.unusedVariables false
open Go.RowKit
attribute [local go_sem ↓] Go.wp_at_zero Go.wp_at_succ

theorem enters_places : Enters Tryz.prog 141 := enters_of Tryz.func141 (by kernel_rfl) rfl

section
variable (use num regs : Int) (b : Bool) (pf pb : Nat) (w : World)

set_option maxRecDepth 100000 in
theorem place1_raw (h0 : w.cell? ⟨pf, 0, none⟩ = some (.bool b)) (hz : w.frozen? ⟨pf, 0, none⟩ = false) (h2 : w.cell? ⟨pb, 2, none⟩ = some (.int .i64 regs)) (hr : 0 ≤ regs) (hr2 : regs ≤ 65536) :
    Calls Tryz.prog 141 #[.int .i64 use, .int .i64 num, .pointer (some ⟨pf, 0, none⟩), .pointer (some ⟨pb, 0, none⟩)] w fun e w' => e = .returned (.tuple #[]) ∧ w'.cell? ⟨pf, 0, none⟩ = some (.bool (b && placeF regs (use, num))) ∧ w'.frozen? ⟨pf, 0, none⟩ = false ∧ Tn (fun k => k = pf) w w' := by
  have HT : Hid (∀ v, Tn (fun k => k = pf) w (w.setCell ⟨pf, 0, none⟩ v)) := hid (fun v => (Tn.refl _ w).set _ _ (fun _ => rfl))
  have HC : Hid (∀ v, (w.setCell ⟨pf, 0, none⟩ v).cell? ⟨pf, 0, none⟩ = some v) := hid (fun v => World.cell?_setCell_same w _ _ h0)
  have HZ : Hid (∀ v, (w.setCell ⟨pf, 0, none⟩ v).frozen? ⟨pf, 0, none⟩ = false) := hid (fun v => by rw [World.frozen?_setCell]; exact hz)
  by_cases hu : use = 0 ∨ use = 1
  · have HV : Hid ((b && placeF regs (use, num)) = (b && (decide (0 ≤ num) && decide (num ≤ regs - 1)))) := hid (by unfold placeF; rw [if_pos hu])
    have HA : Hid (∀ u, Calls Tryz.prog 93 #[.int .i64 num, .int .i64 0, .int .i64 (regs - 1)] u fun e w' => e = .returned (.bool (decide (0 ≤ num) && decide (num ≤ regs - 1))) ∧ w' = u) := hid (fun u => among_raw num 0 (regs - 1) u)
    obtain ⟨q, hq⟩ : ∃ q, (decide (0 ≤ num) && decide (num ≤ regs - 1)) = q := ⟨_, rfl⟩
    rw [hq] at HA HV
    clear hq
    cases b
    all_goals
      rcases hu with rfl | rfl
      all_goals
        go_enter Tryz.func141, Tryz.ntmps141
        go_wp2_with (go_at_call 93; refine (HA.out _).mono ?_; rintro e w2 ⟨rfl, rfl⟩)
        go_end0
        refine ⟨rfl, ?_, HZ.out _, HT.out _⟩
        rw [HV.out]
        exact HC.out _
  · have n0 : (use == 0) = false := by simp; omega
    have n1 : (use == 1) = false := by simp; omega
    have HV : Hid ((b && placeF regs (use, num)) = b) := hid (by unfold placeF; rw [if_neg hu]; simp)
    have HT0 : Hid (Tn (fun k => k = pf) w w) := hid (Tn.refl _ w)
    clear hu
    go_enter Tryz.func141, Tryz.ntmps141
    go_wp2
    go_end0
    refine ⟨rfl, ?_, hz, HT0.out⟩
    rw [HV.out]
    exact h0
end

theorem alloc3_last (w : World) (A B : Obj) (C : Array Value) (t : TypeId) (i : Nat) : (((w.alloc A).alloc B).alloc (.cells C t)).cell? ⟨w.heap.size + 2, i, none⟩ = C[i]? := by
  have e : w.heap.size + 2 = ((w.alloc A).alloc B).heap.size := by simp
  rw [e]
  exact World.cell?_alloc_mark _ _ _ _ i
theorem alloc3_free (w : World) (A B : Obj) (C : Array Value) (t : TypeId) (i : Nat) : (((w.alloc A).alloc B).alloc (.cells C t)).frozen? ⟨w.heap.size + 2, i, none⟩ = false := by
  have e : w.heap.size + 2 = ((w.alloc A).alloc B).heap.size := by simp
  rw [e]
  exact (CB.new _ C t).froz i
theorem alloc3_first (w : World) (A : Array Value) (t : TypeId) (B C : Obj) (i : Nat) : (((w.alloc (.cells A t)).alloc B).alloc C).cell? ⟨w.heap.size, i, none⟩ = A[i]? := by
  rw [Tn.cell (F := No) (a := w.alloc (.cells A t)) (((Tn.refl No _).alloc _).alloc _) (by simp) (fun e => e)]
  exact World.cell?_alloc_mark _ _ _ _ i

theorem all_take_one {α : Type} {p : α → Bool} {l : List α} {k : Nat} {x : α} (hx : l[k]? = some x) : (l.take (k + 1)).all p = ((l.take k).all p && p x) := by
  rw [List.take_add_one, hx, List.all_append]; simp

set_option maxHeartbeats 1000000 in
set_option maxRecDepth 100000 in
theorem places_raw (f : Wf) (x : Wd) (w : World) (hx : WA w x) (hr : 0 ≤ f.regs) (hr2 : f.regs ≤ 65536) :
    Calls Tryz.prog 97 #[f.val, x.val] w fun e w' => e = .returned (.bool (placesF f.regs x)) ∧ Tn No w w' := by
  have HUS : Hid (∀ u, Tn No w u → w.heap.size + 2 < u.heap.size → u.cell? ⟨w.heap.size + 2, 0, none⟩ = some (.bool true) → u.frozen? ⟨w.heap.size + 2, 0, none⟩ = false → u.cell? ⟨w.heap.size, 2, none⟩ = some (.int .i64 f.regs) →
      Calls Tryz.prog 140 #[x.val, .func (.func 141) #[] #[.pointer (some ⟨w.heap.size + 2, 0, none⟩), .pointer (some ⟨w.heap.size, 0, none⟩)]] u fun e w' => e = .returned (.tuple #[]) ∧ w'.cell? ⟨w.heap.size + 2, 0, none⟩ = some (.bool (placesF f.regs x)) ∧ Tn No w w') := by
    refine hid (fun u t hz h0 hf h2 => ?_)
    have hxu := hx.no t
    have hav : 0 < x.args.length → ∀ g, x.av.ownBlock = some g → ¬ (g = w.heap.size + 2) := fun h0 g hg e => by
      obtain ⟨ad, c, e1, _, _, hat⟩ := hx.args
      obtain ⟨g', o, rfl, hg', _⟩ := hat h0
      rw [e1] at hg
      simp [Value.ownBlock] at hg
      omega
    refine (uses_raw (K := 141) (cs := #[.pointer (some ⟨w.heap.size + 2, 0, none⟩), .pointer (some ⟨w.heap.size, 0, none⟩)]) (F := fun k => k = w.heap.size + 2)
      (J := fun n v => v.cell? ⟨w.heap.size + 2, 0, none⟩ = some (.bool (((usesF x).take n).all (placeF f.regs))) ∧ v.frozen? ⟨w.heap.size + 2, 0, none⟩ = false ∧ v.cell? ⟨w.heap.size, 2, none⟩ = some (.int .i64 f.regs) ∧ w.heap.size + 2 < v.heap.size) (w := u) x hxu enters_places
      (fun i e => by omega) hav ⟨h0, hf, h2, hz⟩ (fun n v v' hj tn => ⟨by rw [tn.cell hj.2.2.2 (fun e => e)]; exact hj.1, by rw [tn.frozen hj.2.2.2 (fun e => e)]; exact hj.2.1, by rw [tn.cell (by omega) (fun e => e)]; exact hj.2.2.1, Nat.lt_of_lt_of_le hj.2.2.2 tn.size⟩)
      (fun n y z v hn hj => ?_)).mono ?_
    · refine (place1_raw y z f.regs _ (w.heap.size + 2) w.heap.size v hj.1 hj.2.1 hj.2.2.1 hr hr2).mono ?_
      rintro e v' ⟨rfl, g1, g2, g3⟩
      refine ⟨rfl, ⟨by rw [g1, all_take_one hn], g2, by rw [g3.cell (by omega) (by omega)]; exact hj.2.2.1, Nat.lt_of_lt_of_le hj.2.2.2 g3.size⟩, g3⟩
    · rintro e v' ⟨rfl, ⟨g1, _⟩, g2⟩
      refine ⟨rfl, ?_, t.trans g2 (fun _ _ e => e) (fun i hi e => by omega)⟩
      rw [g1, List.take_of_length_le (Nat.le_refl _)]
      rfl
  clear hx
  obtain ⟨name, params, regs, slots, cv, code⟩ := f
  obtain ⟨k, d, a, b, l, ff, cond, real, size, imm, av, args⟩ := x
  simp only [Wf.val, Wd.val] at HUS ⊢
  obtain ⟨q, hq⟩ : ∃ q, placesF regs ⟨k, d, a, b, l, ff, cond, real, size, imm, av, args⟩ = q := ⟨_, rfl⟩
  rw [hq] at HUS ⊢
  clear hq
  obtain ⟨U, hU⟩ : ∃ U, ((w.alloc (.cells #[.string name, .int .i64 params, .int .i64 regs, .int .i64 slots, cv] 76)).alloc (.cells #[.int .i64 k, .int .i64 d, .int .i64 a, .int .i64 b, .int .i64 l, .int .i64 ff, .int .i64 cond, .int .i64 real, .int .i64 size, .int .i64 imm, av] 79)).alloc (.cells #[.bool true] 4) = U := ⟨_, rfl⟩
  have HC := hid (HUS.out U (by rw [← hU]; exact (((Tn.refl No w).alloc _).alloc _).alloc _) (by rw [← hU]; simp) (by rw [← hU]; exact alloc3_last w _ _ _ _ 0) (by rw [← hU]; exact alloc3_free w _ _ _ _ 0) (by rw [← hU]; exact alloc3_first w _ _ _ _ 2))
  subst hU
  clear HUS
  go_enter Tryz.func97, Tryz.ntmps97
  go_wp2_with (go_at_call 140; refine HC.out.mono ?_; rintro e w2 ⟨rfl, c2, t2⟩; have HT := hid t2; clear t2)
  go_ret
  exact ⟨rfl, HT.out⟩
end Go.Proofs.YtoidddfpekbliaaGreat
