/-
  Int64 of the program.
-/
import Derived.Test.YtcmhfeeocehlaaaGreatDoorBigC
import Derived.Test.YtcmhfeeocehlaaaGreatDoorRefA
import Derived.Test.YtcmhfeeocehlaaaGreatDoorRefB
import Derived.Laws.BitsAllLaws
namespace Go.Proofs.YtcmhfeeocehlaaaGreatDoor
set_option linter.unusedSimpArgs false
set_option linter.unusedVariables false
open Go.RowKit
attribute [local go_sem ↓] Go.wp_at_zero Go.wp_at_succ

/-- it has room among 64 bits -/
def inr (z : Int) : Bool := decide (-9223372036854775808 ≤ z) && decide (z ≤ 9223372036854775807)
def I64Post (w : World) (z : Int) (e : Ending) (w' : World) : Prop := e = .returned (.tuple #[.int .i64 (if inr z = true then z else 0), .bool (inr z)]) ∧ w.grownBy w' none

theorem or_lo (p q : Nat) (hp : p < 4294967296) (hq : q < 4294967296) : bits .or .u64 (p : Int) ((q : Int) * 4294967296) = ((p + q * 4294967296 : Nat) : Int) := by
  have h := u64_or_nat p (q * 4294967296) (by omega) (by omega)
  rw [Nat.or_comm, or_nat q p hp] at h
  rw [Nat.add_comm p, ← h]
  simp
theorem or_zero (p : Nat) (hp : p < 4294967296) : bits .or .u64 0 (p : Int) = (p : Int) := by
  have h := u64_or_nat 0 p (by omega) (by omega)
  simpa using h

theorem take_lt' (l : List Nat) (h : Lims l) (k : Nat) : val (l.take k) < B32 ^ k := by
  have h1 := val_lt (l.take k) (lims_take h k)
  have h2 := pow_mono (show (l.take k).length ≤ k by rw [List.length_take]; omega)
  omega
theorem i64_end {w w' : World} {z v : Int} (h : inr z = true) (hv : v = z) (hg : w.grownBy w' none) : I64Post w z (.returned (.tuple #[.int .i64 v, .bool true])) w' :=
  ⟨by rw [h, hv]; rfl, hg⟩
theorem i64_none {w w' : World} {z : Int} (h : inr z = false) (hg : w.grownBy w' none) : I64Post w z (.returned (.tuple #[.int .i64 0, .bool false])) w' :=
  ⟨by rw [h]; rfl, hg⟩
theorem wrap_back (m : Nat) (h : m ≤ 9223372036854775808) : wrap64 (IntKind.u64.wrap (-(m : Int))) = -(m : Int) := by
  simp only [wrap64, IntKind.wrap, IntKind.signed, IntKind.bits]
  simp
  omega
theorem val_one (p : Nat) : val [p] = p := by simp [val]
theorem val_pair (p q : Nat) : val [p, q] = p + q * 4294967296 := by simp only [val, B32_eq]; omega

end Go.Proofs.YtcmhfeeocehlaaaGreatDoor
namespace Go.Proofs.YtcmhfeeocehlaaaGreatDoor
set_option linter.unusedSimpArgs false
set_option linter.unusedVariables false
open Go.RowKit
attribute [local go_sem ↓] Go.wp_at_zero Go.wp_at_succ

theorem drop_val (l : List Nat) (m : Nat) (h : m < l.length) : val (l.drop m) = val (l.drop (m + 1)) * 4294967296 + l.getD m 0 := by
  rw [List.drop_eq_getElem_cons h]
  simp only [val, B32_eq]
  rw [List.getD_eq_getElem?_getD, List.getElem?_eq_getElem h, Option.getD_some]
  omega

theorem wrap_ref (m : Nat) (h : m ≤ 9223372036854775808) (h1 : 1 ≤ m) : wrap64 (wrap64 (-wrap64 (IntKind.u64.wrap ((m : Int) - 1))) - 1) = -(m : Int) := by
  have e1 : IntKind.u64.wrap ((m : Int) - 1) = (m : Int) - 1 := by
    simp only [IntKind.wrap, IntKind.signed, IntKind.bits]
    simp
    omega
  rw [e1, IntWalk.wrap64_in ((m : Int) - 1) ⟨by omega, by omega⟩, IntWalk.wrap64_in (-((m : Int) - 1)) ⟨by omega, by omega⟩, IntWalk.wrap64_in _ ⟨by omega, by omega⟩]
  omega

end Go.Proofs.YtcmhfeeocehlaaaGreatDoor
namespace Go.Proofs.YtcmhfeeocehlaaaGreatDoor
set_option linter.unusedSimpArgs false
set_option linter.unusedVariables false
open Go.RowKit
attribute [local go_sem ↓] Go.wp_at_zero Go.wp_at_succ

theorem nrm_len {l : List Nat} {j : Nat} (h : Nrm l) (hv : val l < B32 ^ j) : l.length ≤ j := by
  by_cases h0 : l = []
  · rw [h0]; simp
  · have h1 := nrm_pos h h0
    by_cases h2 : j < l.length
    · have := pow_mono (show j ≤ l.length - 1 by omega)
      omega
    · omega
theorem mul_lt_pow {a b p q : Nat} (ha : a < B32 ^ p) (hb : b < B32 ^ q) : a * b < B32 ^ (p + q) := by
  rw [Nat.pow_add]
  exact Nat.mul_lt_mul'' ha hb
theorem mulrow_step {O X Y p : Nat} {D : Nat} (h : O = X * Y) (hD : D = X * 4294967296 + p) : 0 + B32 * O + (Y * p + 0) = D * Y := by
  subst h; subst hD
  rw [← B32_eq]
  grind

theorem up_sl {wr w2 w3 : World} {ao : Option Addr} {no g k : Nat} {O : List Nat} (hO : SL wr ao no no O) (hl : O.length = no) (hr : Row w2 g (List.replicate 1 0 ++ O ++ List.replicate k 0)) (hg : w2.grownBy w3 none) (hn : no + 1 ≤ 35184372088832) : SL w3 (some ⟨g, 0, none⟩) (no + 1) (no + 1) (0 :: O) := by
  have hr' : Row w2 g ((0 :: O) ++ List.replicate k 0) := hr
  refine OW.sl (B := 0) (OW.of_row (hr'.kept hg (by simp)) (Nat.zero_le _) (by simp; exact hl) (Nat.le_refl _) hn (by omega) ?_)
  intro z hz
  rcases List.mem_cons.1 hz with rfl | hz
  · omega
  · exact hO.lim z hz

end Go.Proofs.YtcmhfeeocehlaaaGreatDoor
namespace Go.Proofs.YtcmhfeeocehlaaaGreatDoor
set_option linter.unusedSimpArgs false
set_option linter.unusedVariables false
open Go.RowKit
attribute [local go_sem ↓] Go.wp_at_zero Go.wp_at_succ

theorem and_mask1 (m : Nat) (h : m < 18446744073709551616) : bits .and .u64 (m : Int) 4294967295 = ((m % 4294967296 : Nat) : Int) := by
  have h1 := u64_and_nat m 4294967295 h (by omega)
  have h2 : m &&& 4294967295 = m % 4294967296 := Nat.and_two_pow_sub_one_eq_mod m 32
  rw [h2] at h1
  exact h1

theorem row_two' (w : World) (g m : Nat) (p q : Int) (hg : w.heap.size = g) (hp : p = ((m % 4294967296 : Nat) : Int)) (hq : q = ((m / 4294967296 : Nat) : Int)) : Row (w.alloc (.cells #[.int .u32 p, .int .u32 q] 84)) g ([m % 4294967296, m / 4294967296] ++ []) := by
  subst hg; subst hp; subst hq
  refine ⟨[], ?_⟩
  rw [heap_alloc_new]
  simp [cl]

end Go.Proofs.YtcmhfeeocehlaaaGreatDoor
namespace Go.Proofs.YtcmhfeeocehlaaaGreatDoor
set_option linter.unusedSimpArgs false
set_option linter.unusedVariables false
open Go.RowKit
attribute [local go_sem ↓] Go.wp_at_zero Go.wp_at_succ

theorem take_val {x y : List Nat} {n : Nat} (hx : Lims x) (hn : x.length = n) (h : val y ≤ val x) : val (y.take n) = val y := by
  by_cases hk : n ≤ y.length
  · have h1 := val_split y n hk
    have h2 := val_lt x hx
    rw [hn] at h2
    have h3 : val (y.drop n) = 0 := by
      by_cases h0 : val (y.drop n) = 0
      · exact h0
      · have : B32 ^ n * 1 ≤ B32 ^ n * val (y.drop n) := Nat.mul_le_mul_left _ (by omega)
        omega
    rw [h3, Nat.mul_zero] at h1
    omega
  · rw [List.take_of_length_le (by omega)]

set_option maxHeartbeats 1600000 in
theorem rneg_raw (s : Bool) (a : Option Addr) (n c : Nat) (x : List Nat) (w : World) (hx : SL w a n c x) :
    Calls Tryz.prog 65 #[.agg #[.bool s, .slice a n c]] w (RIntPost w (-(iv s x)) n) := by
  go_enter Tryz.func65, Tryz.ntmps65
  go_wp2_with (go_at_call 50; go_must (refine (rnorm_raw (!s) a n c x _ (by exact hx.grown (by repeat (first | exact gb_refl _ _ | apply gb_drew | apply gb_alloc | (refine gb_then ?_ (by assumption) (by simp)))))).mono ?_; rintro e w5 ⟨s5, a5, l5, rfl, ho5, hn5, hs5, hi5, hk5, hg5⟩; have HI5 := hid1 hi5; clear hi5; obtain ⟨hp5, hq5, hr5⟩ := box_kept (w.heap.size + 1) hg5 (by first | (simp; done) | (simp; omega) | omega)))
  refine bodyPost_ret (v := .agg #[.bool s5, .slice a5 l5.length l5.length]) (by simp [results, Tryz.results65, go_sem, hp5, hr5, hq5]) rfl ?_
  exact rint_end (by repeat (first | exact gb_refl _ _ | apply gb_drew | apply gb_alloc | (refine gb_then ?_ (by assumption) (by simp)))) ho5 (g := w.heap.size + 1) (by first | (simp; done) | (simp; omega) | omega) (by omega) (by first | (simp; done) | (simp; omega) | omega) hn5 hs5 (HI5.out.trans (iv_not s x)) hk5 _ _

theorem radd_same {s : Bool} {x y N : List Nat} (h : val N = val x + val y) : iv s N = iv s x + iv s y := by
  cases s <;> simp only [iv, if_true, if_false, Bool.false_eq_true] <;> omega
theorem radd_diff {s : Bool} {x y N : List Nat} (h : val N = val x - val y) (hle : val y ≤ val x) : iv s N = iv s x + iv (!s) y := by
  cases s <;> simp only [iv, if_true, if_false, Bool.false_eq_true, Bool.not_true, Bool.not_false] <;> omega

theorem rmul_iv {s t : Bool} {x y N : List Nat} (h : val N = val x * val y) : iv (s != t) N = iv s x * iv t y := by
  cases s <;> cases t <;> simp [iv, h, Int.mul_neg, Int.neg_mul]

end Go.Proofs.YtcmhfeeocehlaaaGreatDoor
