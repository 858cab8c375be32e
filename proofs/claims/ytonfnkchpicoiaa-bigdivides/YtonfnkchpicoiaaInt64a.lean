/-
  Int64 of the program.
-/
import Derived.Test.YtonfnkchpicoiaaDivBy
namespace Go.Proofs.Ytonfnkchpicoiaa
set_option linter.unusedSimpArgs false
set_option linter.unusedVariables false
open Go.RowKit
attribute [local go_sem ↓] Go.wp_at_zero Go.wp_at_succ

/-- it has room among 64 bits -/
def inr (z : Int) : Bool := decide (-9223372036854775808 ≤ z) && decide (z ≤ 9223372036854775807)
def I64Post (w : World) (z : Int) (e : Ending) (w' : World) : Prop := e = .returned (.tuple #[.int .i64 (if inr z = true then z else 0), .bool (inr z)]) ∧ w.grownBy w' none

theorem or_lo (p q : Nat) (hp : p < 4294967296) (hq : q < 4294967296) : bits .or .u64 (p : Int) ((q : Int) * 4294967296) = ((p + q * 4294967296 : Nat) : Int) := by
  have h := u64_or_nat p (q * 4294967296) (by omega) (by omega)
  rw [Nat.or_comm, or_nat q p hp] at h
  rw [Nat.add_comm p, ← h]
  simp
theorem or_zero (p : Nat) (hp : p < 4294967296) : bits .or .u64 0 (p : Int) = (p : Int) := by
  have h := u64_or_nat 0 p (by omega) (by omega)
  simpa using h

theorem take_lt' (l : List Nat) (h : Lims l) (k : Nat) : val (l.take k) < B32 ^ k := by
  have h1 := val_lt (l.take k) (lims_take h k)
  have h2 := pow_mono (show (l.take k).length ≤ k by rw [List.length_take]; omega)
  omega
theorem i64_end {w w' : World} {z v : Int} (h : inr z = true) (hv : v = z) (hg : w.grownBy w' none) : I64Post w z (.returned (.tuple #[.int .i64 v, .bool true])) w' :=
  ⟨by rw [h, hv]; rfl, hg⟩
theorem i64_none {w w' : World} {z : Int} (h : inr z = false) (hg : w.grownBy w' none) : I64Post w z (.returned (.tuple #[.int .i64 0, .bool false])) w' :=
  ⟨by rw [h]; rfl, hg⟩
theorem wrap_back (m : Nat) (h : m ≤ 9223372036854775808) : wrap64 (IntKind.u64.wrap (-(m : Int))) = -(m : Int) := by
  simp only [wrap64, IntKind.wrap, IntKind.signed, IntKind.bits]
  simp
  omega
theorem val_one (p : Nat) : val [p] = p := by simp [val]
theorem val_pair (p q : Nat) : val [p, q] = p + q * 4294967296 := by simp only [val, B32_eq]; omega

set_option maxHeartbeats 1600000 in
theorem int64_big (s : Bool) (a : Option Addr) (n c : Nat) (x : List Nat) (w : World) (hx : SL w a n c x) (h2 : 2 < (tr x).length) :
    Calls Try.prog 11 #[.agg #[.bool s, .slice a n c]] w (I64Post w (iv s x)) := by
  have HZ : Hid (inr (iv s x) = false) := by
    have h := nrm_pos (nrm_tr x) (by intro e; rw [e] at h2; simp at h2)
    rw [val_tr] at h
    have h3 := pow_mono (show 2 ≤ (tr x).length - 1 by omega)
    have e : B32 ^ 2 = 18446744073709551616 := by decide
    have h4 : 18446744073709551616 ≤ val x := by omega
    show _ = _
    unfold inr iv
    cases s
    · simp; omega
    · simp; omega
  have hl : (2 : Int) < ((tr x).length : Int) := by omega
  go_enter Try.func11, Try.ntmps11
  go_wp2_with (go_at_call 44; refine (trim_raw a n c x _ (by exact hx.grown (by repeat (first | exact gb_refl _ _ | apply gb_drew | apply gb_alloc | (refine gb_then ?_ (by assumption) (by simp)))))).mono ?_; rintro e w1 ⟨a1, rfl, rfl, ha1⟩)
  go_ret2
  refine ⟨?_, (by repeat (first | exact gb_refl _ _ | apply gb_drew | apply gb_alloc | (refine gb_then ?_ (by assumption) (by simp))))⟩
  rw [HZ.out]
  rfl

set_option maxHeartbeats 1600000 in
set_option maxRecDepth 100000 in
theorem int64_small (s : Bool) (a : Option Addr) (n c : Nat) (x : List Nat) (w : World) (hx : SL w a n c x) (h2 : (tr x).length ≤ 2) :
    Calls Try.prog 11 #[.agg #[.bool s, .slice a n c]] w (I64Post w (iv s x)) := by
  have hlim := lims_tr hx.lim
  have hl : ¬ (2 : Int) < ((tr x).length : Int) := by omega
  go_enter Try.func11, Try.ntmps11
  go_wp2_with (go_at_call 44; refine (trim_raw a n c x _ (by exact hx.grown (by repeat (first | exact gb_refl _ _ | apply gb_drew | apply gb_alloc | (refine gb_then ?_ (by assumption) (by simp)))))).mono ?_; rintro e w1 ⟨a1, rfl, rfl, ha1⟩)
  have hs := (hx.grown (World.grownBy_alloc w (.cells #[.bool s, .slice a n c] 24) none)).trim ha1
  obtain ⟨hlen, hcap, hbig, hcm, _, hnil, b, off, ha, hcell⟩ := hs
  go_loop [5, 16] (fun m i => ∃ k : Nat, k ≤ (tr x).length ∧ i = .int .i64 k ∧ m = .int .u64 ((val ((tr x).take k) : Nat) : Int)) (fun _ i => (tr x).length - (intOf i).toNat)
  case atStart => exact ⟨0, by omega, rfl, by simp [val]⟩
  case round =>
    obtain ⟨k, hk, rfl, rfl⟩ := hrel
    by_cases hlt : k < (tr x).length
    · obtain ⟨rfl, _⟩ := ha (by omega)
      have hck := hcell k hlt
      have hlk := lims_getD hlim k
      have HT := hid (val_take_succ (tr x) k)
      have hk2 : k = 0 ∨ k = 1 := by omega
      clear hcell
      rcases hk2 with rfl | rfl
      · simp only [List.take_zero, val]
        have HP : Hid (val ((tr x).take 1) = (tr x).getD 0 0) := by
          have := HT.out
          rw [List.take_zero, Nat.pow_zero, Nat.one_mul] at this
          show _ = _
          rw [this]
          simp [val]
        rw [Nat.add_zero] at hck
        generalize (tr x).getD 0 0 = p at *
        have ho := or_zero p hlk
        go_wp2
        go_round
        case rel => exact ⟨1, by omega, by go_num, by rw [HP.out]⟩
        case measure => simp [intOf]; omega
      · have HP : Hid (val ((tr x).take 2) = val ((tr x).take 1) + (tr x).getD 1 0 * 4294967296) := by
          have := HT.out
          rw [Nat.pow_one, B32_eq] at this
          show _ = _
          rw [this, Nat.mul_comm]
        have hp0 : val ((tr x).take 1) < 4294967296 := by
          have := take_lt' (tr x) hlim 1
          rw [Nat.pow_one, B32_eq] at this
          exact this
        generalize val ((tr x).take 1) = p at *
        generalize (tr x).getD 1 0 = q at *
        have ho := or_lo p q hp0 hlk
        go_wp2
        go_round
        case rel => exact ⟨2, by omega, by go_num, by rw [HP.out]; go_num⟩
        case measure => simp [intOf]; omega
    · have hkn : k = (tr x).length := by omega
      have HV : Hid (val ((tr x).take k) = val x) := by
        show _ = _
        rw [List.take_of_length_le (by omega), val_tr]
      generalize val ((tr x).take k) = m at *
      clear hcell ha
      have hm : m < 18446744073709551616 := by
        have := val_lt (tr x) hlim
        have h3 := pow_mono h2
        have e : B32 ^ 2 = 18446744073709551616 := by decide
        rw [val_tr, ← HV.out] at this
        omega
      cases s
      · by_cases hr : m < 9223372036854775808
        · have hb : decide ((m : Int) < 9223372036854775808) = true := decide_eq_true (by omega)
          have HR := hid hr
          clear hr hm
          go_wp2
          go_ret2
          show I64Post w _ (.returned (.tuple #[.int .i64 (wrap64 (m : Int)), .bool true])) _
          have hm2 := HR.out
          have hz : iv false x = (m : Int) := by unfold iv; rw [← HV.out]; simp
          refine i64_end (by rw [hz]; unfold inr; simp; omega) ?_ (by repeat (first | exact gb_refl _ _ | apply gb_drew | apply gb_alloc | (refine gb_then ?_ (by assumption) (by simp))))
          rw [hz]
          exact IntWalk.wrap64_in _ ⟨by omega, by omega⟩
        · have hb : decide ((m : Int) < 9223372036854775808) = false := decide_eq_false (by omega)
          have HR := hid hr
          clear hr hm
          go_wp2
          go_ret2
          show I64Post w _ (.returned (.tuple #[.int .i64 0, .bool false])) _
          have hm2 := HR.out
          have hz : iv false x = (m : Int) := by unfold iv; rw [← HV.out]; simp
          exact i64_none (by rw [hz]; unfold inr; simp; omega) (by repeat (first | exact gb_refl _ _ | apply gb_drew | apply gb_alloc | (refine gb_then ?_ (by assumption) (by simp))))
      · by_cases hr : m ≤ 9223372036854775808
        · have hb : decide ((m : Int) ≤ 9223372036854775808) = true := decide_eq_true (by omega)
          have HR := hid hr
          clear hr hm
          go_wp2
          go_ret2
          show I64Post w _ (.returned (.tuple #[.int .i64 (wrap64 (IntKind.u64.wrap (-(m : Int)))), .bool true])) _
          have hm2 := HR.out
          have hz : iv true x = -(m : Int) := by unfold iv; rw [← HV.out]; simp
          refine i64_end (by rw [hz]; unfold inr; simp; omega) ?_ (by repeat (first | exact gb_refl _ _ | apply gb_drew | apply gb_alloc | (refine gb_then ?_ (by assumption) (by simp))))
          rw [hz]
          exact wrap_back m hm2
        · have hb : decide ((m : Int) ≤ 9223372036854775808) = false := decide_eq_false (by omega)
          have HR := hid hr
          clear hr hm
          go_wp2
          go_ret2
          show I64Post w _ (.returned (.tuple #[.int .i64 0, .bool false])) _
          have hm2 := HR.out
          have hz : iv true x = -(m : Int) := by unfold iv; rw [← HV.out]; simp
          exact i64_none (by rw [hz]; unfold inr; simp; omega) (by repeat (first | exact gb_refl _ _ | apply gb_drew | apply gb_alloc | (refine gb_then ?_ (by assumption) (by simp))))

theorem int64_raw (s : Bool) (a : Option Addr) (n c : Nat) (x : List Nat) (w : World) (hx : SL w a n c x) :
    Calls Try.prog 11 #[.agg #[.bool s, .slice a n c]] w (I64Post w (iv s x)) := by
  by_cases h : (tr x).length ≤ 2
  · exact int64_small s a n c x w hx h
  · exact int64_big s a n c x w hx (by omega)
end Go.Proofs.Ytonfnkchpicoiaa
