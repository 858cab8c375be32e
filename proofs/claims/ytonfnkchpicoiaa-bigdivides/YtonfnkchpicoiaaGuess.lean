/-
  guess: how often, from the highest limbs.
-/
import Derived.Test.YtonfnkchpicoiaaShift
namespace Go.Proofs.Ytonfnkchpicoiaa
set_option linter.unusedSimpArgs false
set_option linter.unusedVariables false
open Go.RowKit
attribute [local go_sem ↓] Go.wp_at_zero Go.wp_at_succ

def GuessPost (w : World) (U V : Nat) (e : Ending) (w' : World) : Prop :=
  ∃ d : Nat, e = .returned (.int .u64 (d : Int)) ∧ d ≤ 4294967295 ∧ U < (d + 1) * V ∧ (∀ d', d = d' + 1 → d' * V ≤ U) ∧ w.grownBy w' none

set_option maxHeartbeats 1600000 in
theorem guess_raw (a b : Option Addr) (n c d : Nat) (u v : List Nat) (w : World) (hu : SL w a (n + 3) c u) (hv : SL w b (n + 2) d v) (hlt : val u < B32 * val v) (hv1 : 1 ≤ v.getD (n + 1) 0) :
    Calls Try.prog 81 #[.slice a (n + 3) c, .slice b (n + 2) d] w (GuessPost w (val u) (val v)) := by
  obtain ⟨lu, hlu, hU⟩ := top_three u n hu.len hu.lim
  obtain ⟨lv, hlv, hV⟩ := top_two v n hv.len hv.lim
  obtain ⟨hlen, hcap, hbig, hcm, hlim, hnil, b1, o1, ha1, hcell1⟩ := hu
  obtain ⟨hlen2, hcap2, hbig2, hcm2, hlim2, hnil2, b2, o2, ha2, hcell2⟩ := hv
  obtain ⟨rfl, hb1⟩ := ha1 (by omega)
  obtain ⟨rfl, hb2⟩ := ha2 (by omega)
  have c0 := hcell1 (n + 2) (by omega)
  have c1 := hcell1 (n + 1) (by omega)
  have c2 := hcell1 n (by omega)
  have d1 := hcell2 (n + 1) (by omega)
  have d2 := hcell2 n (by omega)
  have l0 := lims_getD hlim (n + 2)
  have l1 := lims_getD hlim (n + 1)
  have l2 := lims_getD hlim n
  have m1 := lims_getD hlim2 (n + 1)
  have m2 := lims_getD hlim2 n
  clear hcell1 hcell2 ha1 ha2
  generalize u.getD (n + 2) 0 = u0 at *
  generalize u.getD (n + 1) 0 = u1 at *
  generalize u.getD n 0 = u2 at *
  generalize v.getD (n + 1) 0 = v1 at *
  generalize v.getD n 0 = v2 at *
  have hor := or_hi u0 u1 l0 l1
  have e1 : (n : Int) + 2 - 1 = (n : Int) + 1 := by omega
  have e2 : (n : Int) + 2 - 2 = (n : Int) := by omega
  have hhb : u0 * 4294967296 + u1 < 18446744073709551616 := by omega
  generalize val u = U at *
  generalize val v = V at *
  generalize B32 ^ n = Q at *
  rw [B32_eq] at hU hV hlt
  obtain ⟨high, hH⟩ : ∃ high, u0 * 4294967296 + u1 = high := ⟨_, rfl⟩
  rw [hH] at hU hor hhb
  clear hH
  have HU := hid hU
  have HLU := hid hlu
  have HW := hid hV
  have HLV := hid hlv
  have HLT := hid hlt
  clear hU hlu hV hlv hlt
  have start : ∃ q0 : Nat, q0 ≤ 4294967295 ∧ q0 * v1 ≤ high ∧ U < (q0 + 1) * V ∧ ((high / v1 = q0) ∨ (q0 = 4294967295 ∧ 4294967295 < high / v1)) := by
    by_cases h : high / v1 ≤ 4294967295
    · exact ⟨high / v1, h, Nat.div_mul_le_self _ _, guess_first HU.out HLU.out HW.out l2 (by rw [← Nat.div_lt_iff_lt_mul (by omega)]; omega), .inl rfl⟩
    · refine ⟨4294967295, by omega, ?_, by have := HLT.out; omega, .inr ⟨rfl, by omega⟩⟩
      have := (Nat.le_div_iff_mul_le (by omega)).1 (show 4294967295 ≤ high / v1 by omega)
      exact this
  obtain ⟨q0, hq0, hqv, hqU, hq⟩ := start
  have HQU := hid hqU
  clear hqU
  have hpr : (q0 : Int) * (v1 : Int) = ((q0 * v1 : Nat) : Int) := by simp
  generalize hpv : q0 * v1 = pr at *
  have HPV := hid hpv
  clear hpv
  rcases hq with hq | ⟨hq1, hq⟩
  · have hdv : (high : Int) / (v1 : Int) = (q0 : Int) := by rw [← hq]; simp
    clear hq
    go_enter Try.func81, Try.ntmps81
    go_wp2
    go_region
    go_wp2
    go_region
    go_wp2
    go_loop [9, 10] (fun dg lf => ∃ (dd left : Nat), dg = .int .u64 dd ∧ lf = .int .u64 left ∧ dd ≤ 4294967295 ∧ left + dd * v1 = high ∧ U < (dd + 1) * V) (fun dg _ => (intOf dg).toNat)
    case atStart => exact ⟨q0, high - pr, rfl, by go_num, hq0, by rw [HPV.out]; omega, HQU.out⟩
    case round =>
      obtain ⟨dd, left, rfl, rfl, hdd, hle, hU⟩ := hrel
      have HLE := hid hle
      have HUU := hid hU
      have hlb : left ≤ high := by omega
      clear hle hU
      have hp2 : (dd : Int) * (v2 : Int) = ((dd * v2 : Nat) : Int) := by simp
      have hpb := mul_lt (show dd ≤ 4294967295 from hdd) (show v2 ≤ 4294967295 by omega)
      obtain ⟨p2, hp⟩ : ∃ p2, dd * v2 = p2 := ⟨_, rfl⟩
      rw [hp] at hp2 hpb
      have HP := hid hp
      clear hp
      by_cases hl : left < 4294967296
      · have hor2 := or_hi left u2 hl l2
        have hl' : (left : Int) < 4294967296 := by omega
        by_cases hg : left * 4294967296 + u2 < p2
        · have HL := hid (guess_less HU.out HLU.out HW.out HLE.out (by rw [HP.out]; exact hg))
          have hg' : (left : Int) * 4294967296 + (u2 : Int) < (p2 : Int) := by omega
          have hd1 : 1 ≤ dd := by
            rcases Nat.eq_zero_or_pos dd with h | h
            · have := HP.out
              rw [h, Nat.zero_mul] at this
              omega
            · exact h
          go_wp2
          go_round
          case rel =>
            refine ⟨dd - 1, left + v1, by go_num, by go_num, by omega, ?_, ?_⟩
            · have h2 := HLE.out
              obtain ⟨e, rfl⟩ : ∃ e, dd = e + 1 := ⟨dd - 1, by omega⟩
              rw [Nat.add_sub_cancel]
              rw [Nat.add_mul, Nat.one_mul] at h2
              omega
            · rw [Nat.sub_add_cancel hd1]; exact HL.out
          case measure => simp [intOf]; omega
        · have hg' : ¬ (left : Int) * 4294967296 + (u2 : Int) < (p2 : Int) := by omega
          go_wp2
          go_ret
          refine ⟨dd, rfl, hdd, HUU.out, fun d' e => ?_, (by repeat (first | exact gb_refl _ _ | apply gb_drew | apply gb_alloc | (refine gb_then ?_ (by assumption) (by simp))))⟩
          subst e
          exact guess_last HU.out HW.out HLV.out HLE.out (by rw [HP.out]; omega) (by omega) hv1
      · have hl' : ¬ (left : Int) < 4294967296 := by omega
        go_wp2
        go_ret
        refine ⟨dd, rfl, hdd, HUU.out, fun d' e => ?_, (by repeat (first | exact gb_refl _ _ | apply gb_drew | apply gb_alloc | (refine gb_then ?_ (by assumption) (by simp))))⟩
        subst e
        exact guess_last HU.out HW.out HLV.out HLE.out (by rw [HP.out]; omega) (by omega) hv1
  · obtain ⟨qq, hqq⟩ : ∃ qq, high / v1 = qq := ⟨_, rfl⟩
    have hdv : (high : Int) / (v1 : Int) = (qq : Int) := by rw [← hqq]; simp
    have hqh : qq ≤ high := by rw [← hqq]; exact Nat.div_le_self _ _
    rw [hqq] at hq
    clear hqq
    subst hq1
    go_enter Try.func81, Try.ntmps81
    go_wp2
    go_region
    go_wp2
    go_region
    go_wp2
    go_loop [9, 10] (fun dg lf => ∃ (dd left : Nat), dg = .int .u64 dd ∧ lf = .int .u64 left ∧ dd ≤ 4294967295 ∧ left + dd * v1 = high ∧ U < (dd + 1) * V) (fun dg _ => (intOf dg).toNat)
    case atStart => exact ⟨4294967295, high - pr, rfl, by go_num, hq0, by rw [HPV.out]; omega, HQU.out⟩
    case round =>
      obtain ⟨dd, left, rfl, rfl, hdd, hle, hU⟩ := hrel
      have HLE := hid hle
      have HUU := hid hU
      have hlb : left ≤ high := by omega
      clear hle hU
      have hp2 : (dd : Int) * (v2 : Int) = ((dd * v2 : Nat) : Int) := by simp
      have hpb := mul_lt (show dd ≤ 4294967295 from hdd) (show v2 ≤ 4294967295 by omega)
      obtain ⟨p2, hp⟩ : ∃ p2, dd * v2 = p2 := ⟨_, rfl⟩
      rw [hp] at hp2 hpb
      have HP := hid hp
      clear hp
      by_cases hl : left < 4294967296
      · have hor2 := or_hi left u2 hl l2
        have hl' : (left : Int) < 4294967296 := by omega
        by_cases hg : left * 4294967296 + u2 < p2
        · have HL := hid (guess_less HU.out HLU.out HW.out HLE.out (by rw [HP.out]; exact hg))
          have hg' : (left : Int) * 4294967296 + (u2 : Int) < (p2 : Int) := by omega
          have hd1 : 1 ≤ dd := by
            rcases Nat.eq_zero_or_pos dd with h | h
            · have := HP.out
              rw [h, Nat.zero_mul] at this
              omega
            · exact h
          go_wp2
          go_round
          case rel =>
            refine ⟨dd - 1, left + v1, by go_num, by go_num, by omega, ?_, ?_⟩
            · have h2 := HLE.out
              obtain ⟨e, rfl⟩ : ∃ e, dd = e + 1 := ⟨dd - 1, by omega⟩
              rw [Nat.add_sub_cancel]
              rw [Nat.add_mul, Nat.one_mul] at h2
              omega
            · rw [Nat.sub_add_cancel hd1]; exact HL.out
          case measure => simp [intOf]; omega
        · have hg' : ¬ (left : Int) * 4294967296 + (u2 : Int) < (p2 : Int) := by omega
          go_wp2
          go_ret
          refine ⟨dd, rfl, hdd, HUU.out, fun d' e => ?_, (by repeat (first | exact gb_refl _ _ | apply gb_drew | apply gb_alloc | (refine gb_then ?_ (by assumption) (by simp))))⟩
          subst e
          exact guess_last HU.out HW.out HLV.out HLE.out (by rw [HP.out]; omega) (by omega) hv1
      · have hl' : ¬ (left : Int) < 4294967296 := by omega
        go_wp2
        go_ret
        refine ⟨dd, rfl, hdd, HUU.out, fun d' e => ?_, (by repeat (first | exact gb_refl _ _ | apply gb_drew | apply gb_alloc | (refine gb_then ?_ (by assumption) (by simp))))⟩
        subst e
        exact guess_last HU.out HW.out HLV.out HLE.out (by rw [HP.out]; omega) (by omega) hv1
end Go.Proofs.Ytonfnkchpicoiaa
