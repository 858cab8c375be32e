/-
  The reference's Int64.
-/
import Derived.Test.YtonfnkchpicoiaaInt64a
import Derived.Test.YtonfnkchpicoiaaRefIs
namespace Go.Proofs.Ytonfnkchpicoiaa
set_option linter.unusedSimpArgs false
set_option linter.unusedVariables false
open Go.RowKit
attribute [local go_sem ↓] Go.wp_at_zero Go.wp_at_succ

theorem drop_val (l : List Nat) (m : Nat) (h : m < l.length) : val (l.drop m) = val (l.drop (m + 1)) * 4294967296 + l.getD m 0 := by
  rw [List.drop_eq_getElem_cons h]
  simp only [val, B32_eq]
  rw [List.getD_eq_getElem?_getD, List.getElem?_eq_getElem h, Option.getD_some]
  omega

theorem wrap_ref (m : Nat) (h : m ≤ 9223372036854775808) (h1 : 1 ≤ m) : wrap64 (wrap64 (-wrap64 (IntKind.u64.wrap ((m : Int) - 1))) - 1) = -(m : Int) := by
  have e1 : IntKind.u64.wrap ((m : Int) - 1) = (m : Int) - 1 := by
    simp only [IntKind.wrap, IntKind.signed, IntKind.bits]
    simp
    omega
  rw [e1, IntWalk.wrap64_in ((m : Int) - 1) ⟨by omega, by omega⟩, IntWalk.wrap64_in (-((m : Int) - 1)) ⟨by omega, by omega⟩, IntWalk.wrap64_in _ ⟨by omega, by omega⟩]
  omega

set_option maxHeartbeats 1600000 in
set_option maxRecDepth 100000 in
theorem rint64_small (s : Bool) (a : Option Addr) (n c : Nat) (x : List Nat) (w : World) (hx : SL w a n c x) (h2 : (tr x).length ≤ 2) :
    Calls Try.prog 14 #[.agg #[.bool s, .slice a n c]] w (I64Post w (iv s x)) := by
  have hlim := lims_tr hx.lim
  have hl : ¬ (2 : Int) < ((tr x).length : Int) := by omega
  obtain ⟨s', hs'⟩ : ∃ s', (s && !decide (tr x = [])) = s' := ⟨_, rfl⟩
  have HZ : Hid (iv s x = iv s' (tr x)) := by show _ = _; rw [← hs', iv_tr]
  have HP : Hid (s' = true → 1 ≤ val x) := by
    intro e
    rw [← hs'] at e
    simp at e
    have := nrm_pos (nrm_tr x) e.2
    have := Nat.pow_pos (n := (tr x).length - 1) B32_pos
    rw [val_tr] at *
    omega
  have hN : ∀ w' : World, SL w' a n c x → Calls Try.prog 17 #[.agg #[.bool s, .slice a n c]] w' fun e w'' => ∃ a', e = .returned (.agg #[.bool s', .slice a' (tr x).length (tr x).length]) ∧ SL w'' a' (tr x).length (tr x).length (tr x) ∧ w'.grownBy w'' none := fun w' h => by
    refine (rnorm_at s a n c x w' h).mono ?_
    rintro e w'' ⟨a', rfl, ho, hg⟩
    exact ⟨a', by rw [hs'], ho.sl, hg⟩
  have HN := hid hN
  clear hN hs'
  go_enter Try.func14, Try.ntmps14
  go_wp2_with (go_at_call 17; refine (HN.out _ (by exact hx.grown (by repeat (first | exact gb_refl _ _ | apply gb_drew | apply gb_alloc | (refine gb_then ?_ (by assumption) (by simp)))))).mono ?_; rintro e w1 ⟨a1, rfl, hs1, hg1⟩)
  have hs := hs1.grown (World.grownBy_alloc w1 (.cells #[.bool s', .slice a1 (tr x).length (tr x).length] 24) none)
  have G1 : w.grownBy (w1.alloc (.cells #[.bool s', .slice a1 (tr x).length (tr x).length] 24)) none := (by repeat (first | exact gb_refl _ _ | apply gb_drew | apply gb_alloc | (refine gb_then ?_ (by assumption) (by simp))))
  obtain ⟨hlen, hcap, hbig, hcm, _, hnil, b, off, ha, hcell⟩ := hs
  go_loop [5, 6] (fun u i => ∃ k : Nat, k ≤ (tr x).length ∧ i = .int .i64 ((k : Int) - 1) ∧ u = .int .u64 ((val ((tr x).drop k) : Nat) : Int)) (fun _ i => (intOf i + 1).toNat)
  case atStart => exact ⟨(tr x).length, Nat.le_refl _, by go_num, by rw [List.drop_of_length_le (Nat.le_refl _)]; simp [val]⟩
  case round =>
    obtain ⟨k, hk, rfl, rfl⟩ := hrel
    by_cases h0 : k = 0
    · subst h0
      have HV : Hid (val ((tr x).drop 0) = val x) := by show _ = _; rw [List.drop_zero, val_tr]
      have hm : val ((tr x).drop 0) < 18446744073709551616 := by
        have := val_lt (tr x) hlim
        have h3 := pow_mono h2
        have e : B32 ^ 2 = 18446744073709551616 := by decide
        rw [List.drop_zero]
        omega
      generalize val ((tr x).drop 0) = m at *
      clear hcell ha
      have hz0 : ¬ (0 : Int) ≤ ((0 : Nat) : Int) - 1 := by omega
      cases s'
      · by_cases hr : m < 9223372036854775808
        · have hb : decide ((9223372036854775808 : Int) ≤ (m : Int)) = false := decide_eq_false (by omega)
          have HR := hid hr
          clear hr hm
          go_wp2
          go_ret2
          show I64Post w _ (.returned (.tuple #[.int .i64 (wrap64 (m : Int)), .bool true])) _
          have hm2 := HR.out
          have hz : iv s x = (m : Int) := by rw [HZ.out]; unfold iv; rw [val_tr, ← HV.out]; simp
          refine i64_end (by rw [hz]; unfold inr; simp; omega) ?_ G1
          rw [hz]
          exact IntWalk.wrap64_in _ ⟨by omega, by omega⟩
        · have hb : decide ((9223372036854775808 : Int) ≤ (m : Int)) = true := decide_eq_true (by omega)
          have HR := hid hr
          clear hr hm
          go_wp2
          go_ret2
          show I64Post w _ (.returned (.tuple #[.int .i64 0, .bool false])) _
          have hm2 := HR.out
          have hz : iv s x = (m : Int) := by rw [HZ.out]; unfold iv; rw [val_tr, ← HV.out]; simp
          exact i64_none (by rw [hz]; unfold inr; simp; omega) G1
      · by_cases hr : m ≤ 9223372036854775808
        · have hb : decide ((9223372036854775808 : Int) < (m : Int)) = false := decide_eq_false (by omega)
          have HR := hid hr
          have hm1 : 1 ≤ m := by rw [HV.out]; exact HP.out rfl
          clear hr hm
          go_wp2
          go_ret2
          show I64Post w _ (.returned (.tuple #[.int .i64 (wrap64 (wrap64 (-wrap64 (IntKind.u64.wrap ((m : Int) - 1))) - 1)), .bool true])) _
          have hm2 := HR.out
          have hz : iv s x = -(m : Int) := by rw [HZ.out]; unfold iv; rw [val_tr, ← HV.out]; simp
          refine i64_end (by rw [hz]; unfold inr; simp; omega) ?_ G1
          rw [hz]
          exact wrap_ref m hm2 hm1
        · have hb : decide ((9223372036854775808 : Int) < (m : Int)) = true := decide_eq_true (by omega)
          have HR := hid hr
          clear hr hm
          go_wp2
          go_ret2
          show I64Post w _ (.returned (.tuple #[.int .i64 0, .bool false])) _
          have hm2 := HR.out
          have hz : iv s x = -(m : Int) := by rw [HZ.out]; unfold iv; rw [val_tr, ← HV.out]; simp
          exact i64_none (by rw [hz]; unfold inr; simp; omega) G1
    · obtain ⟨m, rfl⟩ : ∃ m, k = m + 1 := ⟨k - 1, by omega⟩
      obtain ⟨rfl, _⟩ := ha (by omega)
      have hck := hcell m (by omega)
      have hlk := lims_getD hlim m
      have em : ((m + 1 : Nat) : Int) - 1 = (m : Int) := by omega
      rw [em]
      have HD := hid (drop_val (tr x) m (by omega))
      have hu : val ((tr x).drop (m + 1)) < 4294967296 := by
        have h1 := val_lt ((tr x).drop (m + 1)) (lims_drop hlim _)
        have h3 := pow_mono (show ((tr x).drop (m + 1)).length ≤ 1 by rw [List.length_drop]; omega)
        rw [Nat.pow_one, B32_eq] at h3
        rw [B32_eq] at h1
        omega
      clear hcell
      generalize (tr x).getD m 0 = p at *
      generalize val ((tr x).drop (m + 1)) = r at *
      have hor := or_hi r p hu hlk
      go_wp2
      go_round
      case rel => exact ⟨m, by omega, by go_num, by rw [HD.out]; go_num⟩
      case measure => simp [intOf]

set_option maxHeartbeats 1600000 in
theorem rint64_big (s : Bool) (a : Option Addr) (n c : Nat) (x : List Nat) (w : World) (hx : SL w a n c x) (h2 : 2 < (tr x).length) :
    Calls Try.prog 14 #[.agg #[.bool s, .slice a n c]] w (I64Post w (iv s x)) := by
  have HZ : Hid (inr (iv s x) = false) := by
    have h := nrm_pos (nrm_tr x) (by intro e; rw [e] at h2; simp at h2)
    rw [val_tr] at h
    have h3 := pow_mono (show 2 ≤ (tr x).length - 1 by omega)
    have e : B32 ^ 2 = 18446744073709551616 := by decide
    have h4 : 18446744073709551616 ≤ val x := by omega
    show _ = _
    unfold inr iv
    cases s
    · simp; omega
    · simp; omega
  have hl : (2 : Int) < ((tr x).length : Int) := by omega
  go_enter Try.func14, Try.ntmps14
  go_wp2_with (go_at_call 17; refine (rnorm_at s a n c x _ (by exact hx.grown (by repeat (first | exact gb_refl _ _ | apply gb_drew | apply gb_alloc | (refine gb_then ?_ (by assumption) (by simp)))))).mono ?_; rintro e w1 ⟨a1, rfl, ho1, hg1⟩)
  go_ret2
  show I64Post w _ (.returned (.tuple #[.int .i64 0, .bool false])) _
  exact i64_none HZ.out (by repeat (first | exact gb_refl _ _ | apply gb_drew | apply gb_alloc | (refine gb_then ?_ (by assumption) (by simp))))

theorem rint64_raw (s : Bool) (a : Option Addr) (n c : Nat) (x : List Nat) (w : World) (hx : SL w a n c x) :
    Calls Try.prog 14 #[.agg #[.bool s, .slice a n c]] w (I64Post w (iv s x)) := by
  by_cases h : (tr x).length ≤ 2
  · exact rint64_small s a n c x w hx h
  · exact rint64_big s a n c x w hx (by omega)
end Go.Proofs.Ytonfnkchpicoiaa
