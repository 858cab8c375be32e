/-
  strconv.ParseFloat: (*decimal).set on a text with an exponent. (Made by gen_pf22.py.)
-/
import Derived.Test.YtcmhfeeocehlaaaGreatDoorPF22A
import Derived.BigRegion
namespace Go.Proofs.YtcmhfeeocehlaaaGreatDoor
set_option linter.unusedSimpArgs false
set_option linter.unusedVariables false
open Go.RowKit Go.PlainAid
attribute [local go_sem ↓] Go.wp_at_zero Go.wp_at_succ

set_option maxHeartbeats 16000000 in
set_option maxRecDepth 100000 in
theorem set_expNp (s : ByteArray) (e b : Nat) (w : World) (h : Rtx s) (hd : Dgs s 1 e) (h0 : bt s 0 = 45) (r : SS) (hr : ssAt s 1 (e - 1) = r) (hw : DecAt w b ⟨fun _ => 0, 0, 0, false, false⟩) (hee : bt s e = 101) (hxl : (e + 1) < s.size) (hex : ∀ k, (e + 1) ≤ k → k < s.size → 48 ≤ bt s k ∧ bt s k ≤ 57) :
    Calls Tryz.prog 123 #[.pointer (some ⟨b, 0, none⟩), .string s] w fun en w' => en = .returned (.bool true) ∧ Tn (At1 b) w w' ∧ DecAt w' b (r.ds true (some (exAt s (e + 1) (s.size - (e + 1))))) := by
  have hb := get_bt s
  have hp := h.pos
  have hsm := h.small
  have HL := hid (fun k (hk : k < s.size) => lower_rb (bt s k) (h.all k hk))
  have HD := hid hd
  have HR := hid hr
  have hi0 := hd.lt
  have hle := hd.le
  have hii : (1 : Int) < s.size := by omega
  have hne : ¬ s = ByteArray.empty := by intro e; rw [e] at hp; simp at hp
  have hn43 : ¬ bt s 0 = 43 := by have := h.all 0 h.pos; unfold Rb at this; omega
  have HE := hid hex
  have hx0l : (e + 1) < s.size := hxl
  clear hex
  have HW := hid hw
  have k802 := hw.neg
  have z802 := hw.un 802
  have k803 := hw.tr
  have z803 := hw.un 803
  simp only at k802 k803
  clear h hd hr hw
  go_enter Tryz.func123, Tryz.ntmps123
  go_wp2_with fail
  have HD0 : Hid (DecAt (((w.setCell ⟨b, 802, none⟩ (.bool false)).setCell ⟨b, 803, none⟩ (.bool false)).setCell ⟨b, 802, none⟩ (.bool true)) b ⟨fun _ => 0, 0, 0, true, false⟩) := hid (((HW.out.setG false).setT false).setG true)
  have HT0 : Hid (Tn (At1 b) w (((w.setCell ⟨b, 802, none⟩ (.bool false)).setCell ⟨b, 803, none⟩ (.bool false)).setCell ⟨b, 802, none⟩ (.bool true))) := hid (At1.set (At1.set (At1.set (Tn.refl _ _) _ _) _ _) _ _)
  clear k802 z802 k803 z803
  go_loopw [5, 6, 7] (fun v5 v6 v7 wr => ∃ (j i : Nat) (D : Nat → Int) (nd : Nat) (dp : Int) (dot digs : Bool), i = 1 + j ∧ i ≤ e ∧ Hid (ssAt s 1 j = ⟨D, nd, dp, dot, digs⟩) ∧ v5 = .int .i64 (i : Int) ∧ v6 = .bool dot ∧ v7 = .bool digs ∧ Tn (At1 b) w wr ∧ DecAt wr b ⟨D, nd, dp, true, false⟩) (fun v5 _ _ _ => s.size - (intOf v5).toNat)
  case atStart => exact ⟨0, 1, _, 0, 0, false, false, rfl, by omega, hid rfl, rfl, rfl, rfl, HT0.out, HD0.out⟩
  case round =>
    obtain ⟨j, i, D, nd, dp, dot, digs, hij, hi, HRF, rfl, rfl, rfl, ht, hd⟩ := hrel
    have HT := hid ht
    have HDD := hid hd
    have hbnd := ss_bound s 1 j
    rw [HRF.out] at hbnd
    simp only at hbnd
    obtain ⟨bn1, bn2, bn3⟩ := hbnd
    have hj100 : j ≤ 100 := by omega
    have bd1 : -100 ≤ dp := by omega
    have bd2 : dp ≤ 100 := by omega
    have bn4 : nd ≤ 100 := by omega
    clear bn2 bn3
    have k1 := hd.nd
    have k2 := hd.dp
    have z800 := hd.un 800
    have z801 := hd.un 801
    simp only at k1 k2
    by_cases hlt : i < e
    · have hli : (i : Int) < (s.size : Int) := by omega
      rcases HD.out.all i (by omega) hlt with hc | ⟨hc1, hc2⟩
      · have hdot : dot = false := by
          cases hdt : dot with
          | false => rfl
          | true =>
            exact absurd hc (ss_one HD.out (by omega) hlt hij (by rw [HRF.out]; exact hdt))
        subst hdot
        have HN : Hid (ssAt s 1 (j + 1) = ⟨D, nd, (nd : Int), true, digs⟩) := hid (by rw [ssAt, HRF.out, ← hij]; simp [ssStep, hc])
        have HIJ := hid hij
        clear hij ht hd
        go_wp2_with fail
        have hd2 := HDD.out.setP (nd : Int)
        go_roundw
        case rel => exact ⟨j + 1, i + 1, _, _, _, _, _, by have := HIJ.out; omega, by omega, HN, by go_num, rfl, rfl, At1.set HT.out _ _, hd2⟩
        case measure => simp [intOf]; omega
      · have c95 : (bt s i == 95) = false := by simp only [beq_eq_false_iff_ne, ne_eq]; omega
        have c46 : (bt s i == 46) = false := by simp only [beq_eq_false_iff_ne, ne_eq]; omega
        have n46 : ¬ bt s i = 46 := by omega
        by_cases hz : bt s i = 48 ∧ nd = 0
        · obtain ⟨hz1, hz2⟩ := hz
          subst hz2
          have HN : Hid (ssAt s 1 (j + 1) = ⟨D, 0, dp - 1, dot, true⟩) := hid (by rw [ssAt, HRF.out, ← hij]; simp [ssStep, hz1])
          have HIJ := hid hij
          clear hij ht hd
          go_wp2_with fail
          have hd2 := HDD.out.setP (dp - 1)
          go_roundw
          case rel => exact ⟨j + 1, i + 1, _, _, _, _, _, by have := HIJ.out; omega, by omega, HN, by go_num, rfl, rfl, At1.set HT.out _ _, hd2⟩
          case measure => simp [intOf]; omega
        · have HN : Hid (ssAt s 1 (j + 1) = ⟨fun t => if t = nd then bt s i else D t, nd + 1, dp, dot, true⟩) := hid (by rw [ssAt, HRF.out, ← hij]; unfold ssStep; rw [if_neg n46, if_neg hz])
          have hnd8 : (nd : Int) < 800 := by omega
          have kn := hd.d nd (by omega)
          have zn := hd.un nd
          simp only at kn
          have HIJ := hid hij
          have HZ := hid hz
          obtain ⟨c, hcc⟩ : ∃ c, bt s i = c := ⟨_, rfl⟩
          clear hij ht hd
          by_cases hz1 : bt s i = 48
          · have hnd0 : ¬ nd = 0 := fun e => hz ⟨hz1, e⟩
            have hndb : ((nd : Int) == 0) = false := by simpa using hnd0
            have hzb : (bt s i == 48) = true := by simp [hz1]
            have HN := hid (show ssAt s 1 (j + 1) = ⟨fun t => if t = nd then 48 else D t, nd + 1, dp, dot, true⟩ by have := HN.out; rw [hz1] at this; exact this)
            clear hz hcc
            go_wp2_with fail
            go_region
            go_wp2_with fail
            have hd2 := ((HDD.out.setD nd (48) (by omega)).setN (nd + 1)).no ((Tn.refl No _).drew)
            rw [show ((nd + 1 : Nat) : Int) = (nd : Int) + 1 from by omega] at hd2
            go_roundw
            case rel => exact ⟨j + 1, i + 1, _, _, _, _, _, by have := HIJ.out; omega, by omega, HN, by go_num, rfl, rfl, (At1.set (At1.set HT.out _ _) _ _).drew, hd2⟩
            case measure => simp [intOf]; omega
          · have hzb : (bt s i == 48) = false := by simpa using hz1
            clear hz hcc
            go_wp2_with fail
            go_region
            go_wp2_with fail
            have hd2 := ((HDD.out.setD nd (bt s i) (by omega)).setN (nd + 1)).no ((Tn.refl No _).drew)
            rw [show ((nd + 1 : Nat) : Int) = (nd : Int) + 1 from by omega] at hd2
            go_roundw
            case rel => exact ⟨j + 1, i + 1, _, _, _, _, _, by have := HIJ.out; omega, by omega, HN, by go_num, rfl, rfl, (At1.set (At1.set HT.out _ _) _ _).drew, hd2⟩
            case measure => simp [intOf]; omega
    · have hie : i = e := by omega
      subst hie
      have hdg : digs = true := by
        have := ss_digs (s := s) (i0 := 1) HD.out.first.1 (j - 1)
        rw [show j - 1 + 1 = j by omega, HRF.out] at this
        exact this
      subst hdg
      have hre : r = ⟨D, nd, dp, dot, true⟩ := by rw [← HR.out, show i - 1 = j by omega]; exact HRF.out
      subst hre
      have hli : (i : Int) < (s.size : Int) := by omega
      have HL2 := hid (HL.out i (by omega))
      rw [hee] at HL2
      clear hij ht hd
      have hq1 : (i : Int) + 1 < (s.size : Int) := by omega
      have hq4 := HE.out (i + 1) (by omega) (by omega)
      obtain ⟨hq5, hq6⟩ := hq4
      have hq7 : ¬ bt s (i + 1) = 43 := by omega
      have hq8 : ¬ bt s (i + 1) = 45 := by omega
      cases dot
      · have HD9 : Hid (DecAt (wr.setCell ⟨b, 801, none⟩ (.int .i64 (nd : Int))) b ⟨D, nd, (nd : Int), true, false⟩) := hid (HDD.out.setP (nd : Int))
        have HT9 : Hid (Tn (At1 b) w (wr.setCell ⟨b, 801, none⟩ (.int .i64 (nd : Int)))) := hid (At1.set HT.out _ _)
        have q2 := HD9.out.dp
        have y801 := HD9.out.un 801
        simp only at q2
        have pb1 : -100 ≤ (nd : Int) := by omega
        have pb2 : (nd : Int) ≤ 100 := by omega
        go_wp2_with (go_at_call 140; refine (HL2.out _).mono ?_; rintro en w' ⟨rfl, rfl⟩)
        go_loop [5, 9] (fun v5 v9 => ∃ (k m : Nat) (x : Int), m = (i + 1) + k ∧ m ≤ s.size ∧ Hid (exAt s (i + 1) k = x) ∧ 0 ≤ x ∧ x ≤ 100000 ∧ v5 = .int .i64 (m : Int) ∧ v9 = .int .i64 x) (fun v5 _ => s.size - (intOf v5).toNat)
        case atStart => exact ⟨0, (i + 1), 0, rfl, by omega, hid rfl, by omega, by omega, by first | rfl | go_num, rfl⟩
        case round =>
          obtain ⟨k, m, x, hmk, hm, HX, hx0, hx1, rfl, rfl⟩ := hrel
          by_cases hlm : m < s.size
          · have hlm' : (m : Int) < (s.size : Int) := by omega
            obtain ⟨g1, g2⟩ := HE.out m (by omega) hlm
            have c95 : (bt s m == 95) = false := by simp only [beq_eq_false_iff_ne, ne_eq]; omega
            by_cases hxs : x < 10000
            · have HN : Hid (exAt s (i + 1) (k + 1) = x * 10 + bt s m - 48) := hid (by rw [exAt, HX.out, if_pos hxs, ← hmk])
              have HMK := hid hmk
              clear hmk
              go_wp2_with fail
              go_round
              · exact ⟨k + 1, m + 1, _, by have := HMK.out; omega, by omega, HN, by omega, by omega, by go_num, rfl⟩
              · simp [intOf]; omega
            · rw [Int.not_lt] at hxs
              have HN : Hid (exAt s (i + 1) (k + 1) = x) := hid (by rw [exAt, HX.out, if_neg (by omega)])
              have HMK := hid hmk
              clear hmk
              go_wp2_with fail
              go_round
              · exact ⟨k + 1, m + 1, _, by have := HMK.out; omega, by omega, HN, by omega, by omega, by go_num, rfl⟩
              · simp [intOf]; omega
          · have hms : m = s.size := by omega
            have hnl : ¬ (m : Int) < (s.size : Int) := by omega
            have HXE : Hid (exAt s (i + 1) (s.size - (i + 1)) = x) := hid (by rw [show s.size - (i + 1) = k by omega]; exact HX.out)
            have hmi : (m : Int) = (s.size : Int) := by omega
            clear hmk HX
            go_wp2_with fail
            go_ret
            have hd5 := HD9.out.setP (wrap64 ((nd : Int) + x))
            have hwr : wrap64 ((nd : Int) + x) = (nd : Int) + x := by unfold wrap64; omega
            refine ⟨rfl, At1.set HT9.out _ _, ?_⟩
            have e : SS.ds ⟨D, nd, dp, false, true⟩ true (some (exAt s (i + 1) (s.size - (i + 1)))) = ⟨D, nd, wrap64 ((nd : Int) + x), true, false⟩ := by
              unfold SS.ds; rw [HXE.out]; rfl
            rw [e]
            rw [hwr] at hd5 ⊢
            first | exact hd5 | (simpa [Int.mul_neg, Int.sub_eq_add_neg] using hd5)
      · have HD9 : Hid (DecAt wr b ⟨D, nd, dp, true, false⟩) := hid HDD.out
        have HT9 : Hid (Tn (At1 b) w wr) := hid HT.out
        have q2 := HD9.out.dp
        have y801 := HD9.out.un 801
        simp only at q2
        have pb1 : -100 ≤ dp := by omega
        have pb2 : dp ≤ 100 := by omega
        go_wp2_with (go_at_call 140; refine (HL2.out _).mono ?_; rintro en w' ⟨rfl, rfl⟩)
        go_loop [5, 9] (fun v5 v9 => ∃ (k m : Nat) (x : Int), m = (i + 1) + k ∧ m ≤ s.size ∧ Hid (exAt s (i + 1) k = x) ∧ 0 ≤ x ∧ x ≤ 100000 ∧ v5 = .int .i64 (m : Int) ∧ v9 = .int .i64 x) (fun v5 _ => s.size - (intOf v5).toNat)
        case atStart => exact ⟨0, (i + 1), 0, rfl, by omega, hid rfl, by omega, by omega, by first | rfl | go_num, rfl⟩
        case round =>
          obtain ⟨k, m, x, hmk, hm, HX, hx0, hx1, rfl, rfl⟩ := hrel
          by_cases hlm : m < s.size
          · have hlm' : (m : Int) < (s.size : Int) := by omega
            obtain ⟨g1, g2⟩ := HE.out m (by omega) hlm
            have c95 : (bt s m == 95) = false := by simp only [beq_eq_false_iff_ne, ne_eq]; omega
            by_cases hxs : x < 10000
            · have HN : Hid (exAt s (i + 1) (k + 1) = x * 10 + bt s m - 48) := hid (by rw [exAt, HX.out, if_pos hxs, ← hmk])
              have HMK := hid hmk
              clear hmk
              go_wp2_with fail
              go_round
              · exact ⟨k + 1, m + 1, _, by have := HMK.out; omega, by omega, HN, by omega, by omega, by go_num, rfl⟩
              · simp [intOf]; omega
            · rw [Int.not_lt] at hxs
              have HN : Hid (exAt s (i + 1) (k + 1) = x) := hid (by rw [exAt, HX.out, if_neg (by omega)])
              have HMK := hid hmk
              clear hmk
              go_wp2_with fail
              go_round
              · exact ⟨k + 1, m + 1, _, by have := HMK.out; omega, by omega, HN, by omega, by omega, by go_num, rfl⟩
              · simp [intOf]; omega
          · have hms : m = s.size := by omega
            have hnl : ¬ (m : Int) < (s.size : Int) := by omega
            have HXE : Hid (exAt s (i + 1) (s.size - (i + 1)) = x) := hid (by rw [show s.size - (i + 1) = k by omega]; exact HX.out)
            have hmi : (m : Int) = (s.size : Int) := by omega
            clear hmk HX
            go_wp2_with fail
            go_ret
            have hd5 := HD9.out.setP (wrap64 (dp + x))
            have hwr : wrap64 (dp + x) = dp + x := by unfold wrap64; omega
            refine ⟨rfl, At1.set HT9.out _ _, ?_⟩
            have e : SS.ds ⟨D, nd, dp, true, true⟩ true (some (exAt s (i + 1) (s.size - (i + 1)))) = ⟨D, nd, wrap64 (dp + x), true, false⟩ := by
              unfold SS.ds; rw [HXE.out]; rfl
            rw [e]
            rw [hwr] at hd5 ⊢
            first | exact hd5 | (simpa [Int.mul_neg, Int.sub_eq_add_neg] using hd5)
end Go.Proofs.YtcmhfeeocehlaaaGreatDoor
namespace Go.Proofs.YtcmhfeeocehlaaaGreatDoor
set_option linter.unusedSimpArgs false
set_option linter.unusedVariables false
open Go.RowKit Go.PlainAid
attribute [local go_sem ↓] Go.wp_at_zero Go.wp_at_succ

set_option maxHeartbeats 16000000 in
set_option maxRecDepth 100000 in
theorem set_expPp (s : ByteArray) (e b : Nat) (w : World) (h : Rtx s) (hd : Dgs s 0 e) (h0 : ¬ bt s 0 = 45) (r : SS) (hr : ssAt s 0 (e - 0) = r) (hw : DecAt w b ⟨fun _ => 0, 0, 0, false, false⟩) (hee : bt s e = 101) (hxl : (e + 1) < s.size) (hex : ∀ k, (e + 1) ≤ k → k < s.size → 48 ≤ bt s k ∧ bt s k ≤ 57) :
    Calls Tryz.prog 123 #[.pointer (some ⟨b, 0, none⟩), .string s] w fun en w' => en = .returned (.bool true) ∧ Tn (At1 b) w w' ∧ DecAt w' b (r.ds false (some (exAt s (e + 1) (s.size - (e + 1))))) := by
  have hb := get_bt s
  have hp := h.pos
  have hsm := h.small
  have HL := hid (fun k (hk : k < s.size) => lower_rb (bt s k) (h.all k hk))
  have HD := hid hd
  have HR := hid hr
  have hi0 := hd.lt
  have hle := hd.le
  have hii : (0 : Int) < s.size := by omega
  have hne : ¬ s = ByteArray.empty := by intro e; rw [e] at hp; simp at hp
  have hn43 : ¬ bt s 0 = 43 := by have := h.all 0 h.pos; unfold Rb at this; omega
  have HE := hid hex
  have hx0l : (e + 1) < s.size := hxl
  clear hex
  have hb43 : (bt s 0 == 43) = false := by simpa using hn43
  have hb45 : (bt s 0 == 45) = false := by simpa using h0
  have HW := hid hw
  have k802 := hw.neg
  have z802 := hw.un 802
  have k803 := hw.tr
  have z803 := hw.un 803
  simp only at k802 k803
  clear h hd hr hw
  go_enter Tryz.func123, Tryz.ntmps123
  go_wp2_with fail
  have HD0 : Hid (DecAt ((w.setCell ⟨b, 802, none⟩ (.bool false)).setCell ⟨b, 803, none⟩ (.bool false)) b ⟨fun _ => 0, 0, 0, false, false⟩) := hid ((HW.out.setG false).setT false)
  have HT0 : Hid (Tn (At1 b) w ((w.setCell ⟨b, 802, none⟩ (.bool false)).setCell ⟨b, 803, none⟩ (.bool false))) := hid (At1.set (At1.set (Tn.refl _ _) _ _) _ _)
  clear k802 z802 k803 z803
  go_loopw [5, 6, 7] (fun v5 v6 v7 wr => ∃ (j i : Nat) (D : Nat → Int) (nd : Nat) (dp : Int) (dot digs : Bool), i = 0 + j ∧ i ≤ e ∧ Hid (ssAt s 0 j = ⟨D, nd, dp, dot, digs⟩) ∧ v5 = .int .i64 (i : Int) ∧ v6 = .bool dot ∧ v7 = .bool digs ∧ Tn (At1 b) w wr ∧ DecAt wr b ⟨D, nd, dp, false, false⟩) (fun v5 _ _ _ => s.size - (intOf v5).toNat)
  case atStart => exact ⟨0, 0, _, 0, 0, false, false, rfl, by omega, hid rfl, rfl, rfl, rfl, HT0.out, HD0.out⟩
  case round =>
    obtain ⟨j, i, D, nd, dp, dot, digs, hij, hi, HRF, rfl, rfl, rfl, ht, hd⟩ := hrel
    have HT := hid ht
    have HDD := hid hd
    have hbnd := ss_bound s 0 j
    rw [HRF.out] at hbnd
    simp only at hbnd
    obtain ⟨bn1, bn2, bn3⟩ := hbnd
    have hj100 : j ≤ 100 := by omega
    have bd1 : -100 ≤ dp := by omega
    have bd2 : dp ≤ 100 := by omega
    have bn4 : nd ≤ 100 := by omega
    clear bn2 bn3
    have k1 := hd.nd
    have k2 := hd.dp
    have z800 := hd.un 800
    have z801 := hd.un 801
    simp only at k1 k2
    by_cases hlt : i < e
    · have hli : (i : Int) < (s.size : Int) := by omega
      rcases HD.out.all i (by omega) hlt with hc | ⟨hc1, hc2⟩
      · have hdot : dot = false := by
          cases hdt : dot with
          | false => rfl
          | true =>
            exact absurd hc (ss_one HD.out (by omega) hlt hij (by rw [HRF.out]; exact hdt))
        subst hdot
        have HN : Hid (ssAt s 0 (j + 1) = ⟨D, nd, (nd : Int), true, digs⟩) := hid (by rw [ssAt, HRF.out, ← hij]; simp [ssStep, hc])
        have HIJ := hid hij
        clear hij ht hd
        go_wp2_with fail
        have hd2 := HDD.out.setP (nd : Int)
        go_roundw
        case rel => exact ⟨j + 1, i + 1, _, _, _, _, _, by have := HIJ.out; omega, by omega, HN, by go_num, rfl, rfl, At1.set HT.out _ _, hd2⟩
        case measure => simp [intOf]; omega
      · have c95 : (bt s i == 95) = false := by simp only [beq_eq_false_iff_ne, ne_eq]; omega
        have c46 : (bt s i == 46) = false := by simp only [beq_eq_false_iff_ne, ne_eq]; omega
        have n46 : ¬ bt s i = 46 := by omega
        by_cases hz : bt s i = 48 ∧ nd = 0
        · obtain ⟨hz1, hz2⟩ := hz
          subst hz2
          have HN : Hid (ssAt s 0 (j + 1) = ⟨D, 0, dp - 1, dot, true⟩) := hid (by rw [ssAt, HRF.out, ← hij]; simp [ssStep, hz1])
          have HIJ := hid hij
          clear hij ht hd
          go_wp2_with fail
          have hd2 := HDD.out.setP (dp - 1)
          go_roundw
          case rel => exact ⟨j + 1, i + 1, _, _, _, _, _, by have := HIJ.out; omega, by omega, HN, by go_num, rfl, rfl, At1.set HT.out _ _, hd2⟩
          case measure => simp [intOf]; omega
        · have HN : Hid (ssAt s 0 (j + 1) = ⟨fun t => if t = nd then bt s i else D t, nd + 1, dp, dot, true⟩) := hid (by rw [ssAt, HRF.out, ← hij]; unfold ssStep; rw [if_neg n46, if_neg hz])
          have hnd8 : (nd : Int) < 800 := by omega
          have kn := hd.d nd (by omega)
          have zn := hd.un nd
          simp only at kn
          have HIJ := hid hij
          have HZ := hid hz
          obtain ⟨c, hcc⟩ : ∃ c, bt s i = c := ⟨_, rfl⟩
          clear hij ht hd
          by_cases hz1 : bt s i = 48
          · have hnd0 : ¬ nd = 0 := fun e => hz ⟨hz1, e⟩
            have hndb : ((nd : Int) == 0) = false := by simpa using hnd0
            have hzb : (bt s i == 48) = true := by simp [hz1]
            have HN := hid (show ssAt s 0 (j + 1) = ⟨fun t => if t = nd then 48 else D t, nd + 1, dp, dot, true⟩ by have := HN.out; rw [hz1] at this; exact this)
            clear hz hcc
            go_wp2_with fail
            go_region
            go_wp2_with fail
            have hd2 := ((HDD.out.setD nd (48) (by omega)).setN (nd + 1)).no ((Tn.refl No _).drew)
            rw [show ((nd + 1 : Nat) : Int) = (nd : Int) + 1 from by omega] at hd2
            go_roundw
            case rel => exact ⟨j + 1, i + 1, _, _, _, _, _, by have := HIJ.out; omega, by omega, HN, by go_num, rfl, rfl, (At1.set (At1.set HT.out _ _) _ _).drew, hd2⟩
            case measure => simp [intOf]; omega
          · have hzb : (bt s i == 48) = false := by simpa using hz1
            clear hz hcc
            go_wp2_with fail
            go_region
            go_wp2_with fail
            have hd2 := ((HDD.out.setD nd (bt s i) (by omega)).setN (nd + 1)).no ((Tn.refl No _).drew)
            rw [show ((nd + 1 : Nat) : Int) = (nd : Int) + 1 from by omega] at hd2
            go_roundw
            case rel => exact ⟨j + 1, i + 1, _, _, _, _, _, by have := HIJ.out; omega, by omega, HN, by go_num, rfl, rfl, (At1.set (At1.set HT.out _ _) _ _).drew, hd2⟩
            case measure => simp [intOf]; omega
    · have hie : i = e := by omega
      subst hie
      have hdg : digs = true := by
        have := ss_digs (s := s) (i0 := 0) HD.out.first.1 (j - 1)
        rw [show j - 1 + 1 = j by omega, HRF.out] at this
        exact this
      subst hdg
      have hre : r = ⟨D, nd, dp, dot, true⟩ := by rw [← HR.out, show i - 0 = j by omega]; exact HRF.out
      subst hre
      have hli : (i : Int) < (s.size : Int) := by omega
      have HL2 := hid (HL.out i (by omega))
      rw [hee] at HL2
      clear hij ht hd
      have hq1 : (i : Int) + 1 < (s.size : Int) := by omega
      have hq4 := HE.out (i + 1) (by omega) (by omega)
      obtain ⟨hq5, hq6⟩ := hq4
      have hq7 : ¬ bt s (i + 1) = 43 := by omega
      have hq8 : ¬ bt s (i + 1) = 45 := by omega
      cases dot
      · have HD9 : Hid (DecAt (wr.setCell ⟨b, 801, none⟩ (.int .i64 (nd : Int))) b ⟨D, nd, (nd : Int), false, false⟩) := hid (HDD.out.setP (nd : Int))
        have HT9 : Hid (Tn (At1 b) w (wr.setCell ⟨b, 801, none⟩ (.int .i64 (nd : Int)))) := hid (At1.set HT.out _ _)
        have q2 := HD9.out.dp
        have y801 := HD9.out.un 801
        simp only at q2
        have pb1 : -100 ≤ (nd : Int) := by omega
        have pb2 : (nd : Int) ≤ 100 := by omega
        go_wp2_with (go_at_call 140; refine (HL2.out _).mono ?_; rintro en w' ⟨rfl, rfl⟩)
        go_loop [5, 9] (fun v5 v9 => ∃ (k m : Nat) (x : Int), m = (i + 1) + k ∧ m ≤ s.size ∧ Hid (exAt s (i + 1) k = x) ∧ 0 ≤ x ∧ x ≤ 100000 ∧ v5 = .int .i64 (m : Int) ∧ v9 = .int .i64 x) (fun v5 _ => s.size - (intOf v5).toNat)
        case atStart => exact ⟨0, (i + 1), 0, rfl, by omega, hid rfl, by omega, by omega, by first | rfl | go_num, rfl⟩
        case round =>
          obtain ⟨k, m, x, hmk, hm, HX, hx0, hx1, rfl, rfl⟩ := hrel
          by_cases hlm : m < s.size
          · have hlm' : (m : Int) < (s.size : Int) := by omega
            obtain ⟨g1, g2⟩ := HE.out m (by omega) hlm
            have c95 : (bt s m == 95) = false := by simp only [beq_eq_false_iff_ne, ne_eq]; omega
            by_cases hxs : x < 10000
            · have HN : Hid (exAt s (i + 1) (k + 1) = x * 10 + bt s m - 48) := hid (by rw [exAt, HX.out, if_pos hxs, ← hmk])
              have HMK := hid hmk
              clear hmk
              go_wp2_with fail
              go_round
              · exact ⟨k + 1, m + 1, _, by have := HMK.out; omega, by omega, HN, by omega, by omega, by go_num, rfl⟩
              · simp [intOf]; omega
            · rw [Int.not_lt] at hxs
              have HN : Hid (exAt s (i + 1) (k + 1) = x) := hid (by rw [exAt, HX.out, if_neg (by omega)])
              have HMK := hid hmk
              clear hmk
              go_wp2_with fail
              go_round
              · exact ⟨k + 1, m + 1, _, by have := HMK.out; omega, by omega, HN, by omega, by omega, by go_num, rfl⟩
              · simp [intOf]; omega
          · have hms : m = s.size := by omega
            have hnl : ¬ (m : Int) < (s.size : Int) := by omega
            have HXE : Hid (exAt s (i + 1) (s.size - (i + 1)) = x) := hid (by rw [show s.size - (i + 1) = k by omega]; exact HX.out)
            have hmi : (m : Int) = (s.size : Int) := by omega
            clear hmk HX
            go_wp2_with fail
            go_ret
            have hd5 := HD9.out.setP (wrap64 ((nd : Int) + x))
            have hwr : wrap64 ((nd : Int) + x) = (nd : Int) + x := by unfold wrap64; omega
            refine ⟨rfl, At1.set HT9.out _ _, ?_⟩
            have e : SS.ds ⟨D, nd, dp, false, true⟩ false (some (exAt s (i + 1) (s.size - (i + 1)))) = ⟨D, nd, wrap64 ((nd : Int) + x), false, false⟩ := by
              unfold SS.ds; rw [HXE.out]; rfl
            rw [e]
            rw [hwr] at hd5 ⊢
            first | exact hd5 | (simpa [Int.mul_neg, Int.sub_eq_add_neg] using hd5)
      · have HD9 : Hid (DecAt wr b ⟨D, nd, dp, false, false⟩) := hid HDD.out
        have HT9 : Hid (Tn (At1 b) w wr) := hid HT.out
        have q2 := HD9.out.dp
        have y801 := HD9.out.un 801
        simp only at q2
        have pb1 : -100 ≤ dp := by omega
        have pb2 : dp ≤ 100 := by omega
        go_wp2_with (go_at_call 140; refine (HL2.out _).mono ?_; rintro en w' ⟨rfl, rfl⟩)
        go_loop [5, 9] (fun v5 v9 => ∃ (k m : Nat) (x : Int), m = (i + 1) + k ∧ m ≤ s.size ∧ Hid (exAt s (i + 1) k = x) ∧ 0 ≤ x ∧ x ≤ 100000 ∧ v5 = .int .i64 (m : Int) ∧ v9 = .int .i64 x) (fun v5 _ => s.size - (intOf v5).toNat)
        case atStart => exact ⟨0, (i + 1), 0, rfl, by omega, hid rfl, by omega, by omega, by first | rfl | go_num, rfl⟩
        case round =>
          obtain ⟨k, m, x, hmk, hm, HX, hx0, hx1, rfl, rfl⟩ := hrel
          by_cases hlm : m < s.size
          · have hlm' : (m : Int) < (s.size : Int) := by omega
            obtain ⟨g1, g2⟩ := HE.out m (by omega) hlm
            have c95 : (bt s m == 95) = false := by simp only [beq_eq_false_iff_ne, ne_eq]; omega
            by_cases hxs : x < 10000
            · have HN : Hid (exAt s (i + 1) (k + 1) = x * 10 + bt s m - 48) := hid (by rw [exAt, HX.out, if_pos hxs, ← hmk])
              have HMK := hid hmk
              clear hmk
              go_wp2_with fail
              go_round
              · exact ⟨k + 1, m + 1, _, by have := HMK.out; omega, by omega, HN, by omega, by omega, by go_num, rfl⟩
              · simp [intOf]; omega
            · rw [Int.not_lt] at hxs
              have HN : Hid (exAt s (i + 1) (k + 1) = x) := hid (by rw [exAt, HX.out, if_neg (by omega)])
              have HMK := hid hmk
              clear hmk
              go_wp2_with fail
              go_round
              · exact ⟨k + 1, m + 1, _, by have := HMK.out; omega, by omega, HN, by omega, by omega, by go_num, rfl⟩
              · simp [intOf]; omega
          · have hms : m = s.size := by omega
            have hnl : ¬ (m : Int) < (s.size : Int) := by omega
            have HXE : Hid (exAt s (i + 1) (s.size - (i + 1)) = x) := hid (by rw [show s.size - (i + 1) = k by omega]; exact HX.out)
            have hmi : (m : Int) = (s.size : Int) := by omega
            clear hmk HX
            go_wp2_with fail
            go_ret
            have hd5 := HD9.out.setP (wrap64 (dp + x))
            have hwr : wrap64 (dp + x) = dp + x := by unfold wrap64; omega
            refine ⟨rfl, At1.set HT9.out _ _, ?_⟩
            have e : SS.ds ⟨D, nd, dp, true, true⟩ false (some (exAt s (i + 1) (s.size - (i + 1)))) = ⟨D, nd, wrap64 (dp + x), false, false⟩ := by
              unfold SS.ds; rw [HXE.out]; rfl
            rw [e]
            rw [hwr] at hd5 ⊢
            first | exact hd5 | (simpa [Int.mul_neg, Int.sub_eq_add_neg] using hd5)
end Go.Proofs.YtcmhfeeocehlaaaGreatDoor
