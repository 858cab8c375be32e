/-
  strconv.ParseFloat: readFloat on a text of digits and a point, below nought. (Made by gen_pf5.py.)
-/
import Derived.Test.YtcmhfeeocehlaaaGreatDoorPFA
namespace Go.Proofs.YtcmhfeeocehlaaaGreatDoor
set_option linter.unusedSimpArgs false
set_option linter.unusedVariables false
open Go.RowKit Go.PlainAid
attribute [local go_sem ↓] Go.wp_at_zero Go.wp_at_succ

set_option maxHeartbeats 16000000 in
set_option maxRecDepth 100000 in
theorem readFloat_plainN (s : ByteArray) (e : Nat) (w : World) (h : Rtx s) (hd : Dgs s 1 e) (h0 : bt s 0 = 45) (r : RF) (hr : rfAt s 1 (e - 1) = r) (he : e = s.size) :
    Calls Tryz.prog 117 #[.string s] w fun en w' => en = .returned (.tuple #[.int .u64 r.mant, .int .i64 (rfExp r none), .bool true, .bool r.trunc, .bool false, .int .i64 s.size, .bool true]) ∧ w' = w := by
  have hb := get_bt s
  have hp := h.pos
  have hsm := h.small
  have HL := hid (fun k (hk : k < s.size) => lower_rb (bt s k) (h.all k hk))
  have HD := hid hd
  have HR := hid hr
  have hi0 := hd.lt
  have hle := hd.le
  have hii : (1 : Int) < s.size := by omega
  have hne : ¬ s = ByteArray.empty := by intro e; rw [e] at hp; simp at hp
  have hx2 : (bt s (1 + 1) == 120) = false := by
    by_cases h2 : 1 + 1 < s.size
    · have := h.all (1 + 1) h2
      unfold Rb at this
      simp only [beq_eq_false_iff_ne, ne_eq]; omega
    · rw [bt_end s (by omega)]; decide
  simp only [Nat.reduceAdd] at hx2
  have hn43 : ¬ bt s 0 = 43 := by have := h.all 0 h.pos; unfold Rb at this; omega
  clear h hd hr
  go_enter Tryz.func117, Tryz.ntmps117
  go_wp2_with fail
  go_step3
  go_upto_region 12 with fail
  go_cut [54] (fun c wx => c = .bool false ∧ wx = w)
  case first =>
    cases hq48 : (bt s 1 == 48)
    all_goals
      go_wp2_with (go_at_call 140; refine (HL.out _ (by omega) _).mono ?_; rintro en w' ⟨rfl, rfl⟩)
      all_goals go_meet
      all_goals exact ⟨rfl, rfl⟩
  case rest =>
      obtain ⟨rfl, rfl⟩ := hcut
      go_wp2_with fail
      go_step3
      go_wp2_with fail
      go_loop [2, 5, 7, 9, 13, 14, 15, 16, 17] (fun v2 v5 v7 v9 v13 v14 v15 v16 v17 => ∃ (j i : Nat) (mant nd ndm dp : Int) (dot trunc digs : Bool), i = 1 + j ∧ i ≤ e ∧ Hid (rfAt s 1 j = ⟨mant, nd, ndm, dp, dot, trunc, digs⟩) ∧ v2 = .int .u64 mant ∧ v5 = .bool trunc ∧ v7 = .int .i64 (i : Int) ∧ v9 = .bool false ∧ v13 = .bool dot ∧ v14 = .bool digs ∧ v15 = .int .i64 nd ∧ v16 = .int .i64 ndm ∧ v17 = .int .i64 dp) (fun _ _ v7 _ _ _ _ _ _ => s.size - (intOf v7).toNat)
      case atStart => exact ⟨0, 1, 0, 0, 0, 0, false, false, false, rfl, by omega, hid rfl, rfl, rfl, rfl, rfl, rfl, rfl, rfl, rfl, rfl⟩
      case round =>
        obtain ⟨j, i, mant, nd, ndm, dp, dot, trunc, digs, hij, hi, HRF, rfl, rfl, rfl, rfl, rfl, rfl, rfl, rfl, rfl⟩ := hrel
        by_cases hlt : i < e
        · have hli : (i : Int) < (s.size : Int) := by omega
          rcases HD.out.all i (by omega) hlt with hc | ⟨hc1, hc2⟩
          · have hdot : dot = false := by
              cases hdt : dot with
              | false => rfl
              | true =>
                obtain ⟨k, k1, k2, k3⟩ := rf_dot (s := s) (i0 := 1) j (by rw [HRF.out]; exact hdt)
                exact absurd hc (HD.out.one k i k1 (by omega) hlt k3)
            subst hdot
            have HN : Hid (rfAt s 1 (j + 1) = ⟨mant, nd, ndm, nd, true, trunc, digs⟩) := hid (by rw [rfAt, HRF.out, ← hij]; simp [rfStep, hc])
            have HIJ := hid hij
            clear hij
            go_wp2_with fail
            go_round
            · exact ⟨j + 1, i + 1, _, _, _, _, _, _, _, by have := HIJ.out; omega, by omega, HN, rfl, rfl, by go_num, rfl, rfl, rfl, rfl, rfl, rfl⟩
            · simp [intOf]; omega
          · have c95 : (bt s i == 95) = false := by simp only [beq_eq_false_iff_ne, ne_eq]; omega
            have c46 : (bt s i == 46) = false := by simp only [beq_eq_false_iff_ne, ne_eq]; omega
            have n46 : ¬ bt s i = 46 := by omega
            have e8 : IntKind.u8.wrap (bt s i - 48) = bt s i - 48 := by rw [IntKind.wrap_u8]; omega
            by_cases hz : bt s i = 48
            · have hzb : (bt s i == 48) = true := by simp [hz]
              by_cases hnd : nd = 0
              · subst hnd
                have HN : Hid (rfAt s 1 (j + 1) = ⟨mant, 0, ndm, wrap64 (dp - 1), dot, trunc, true⟩) := hid (by rw [rfAt, HRF.out, ← hij]; simp [rfStep, n46, hz])
                have HIJ := hid hij
                clear hij
                go_wp2_with fail
                go_round
                · exact ⟨j + 1, i + 1, _, _, _, _, _, _, _, by have := HIJ.out; omega, by omega, HN, rfl, rfl, by go_num, rfl, rfl, rfl, rfl, rfl, rfl⟩
                · simp [intOf]; omega
              · have hndb : (nd == 0) = false := by simpa using hnd
                by_cases hn : ndm < 19
                · skip
                  have HN : Hid (rfAt s 1 (j + 1) = ⟨IntKind.u64.wrap (IntKind.u64.wrap (mant * 10)), wrap64 (nd + 1), wrap64 (ndm + 1), dp, dot, trunc, true⟩) := hid (by rw [rfAt, HRF.out, ← hij]; simp [rfStep, hz, hnd, hn])
                  have HIJ := hid hij
                  clear hij
                  go_wp2_with fail
                  go_round
                  · exact ⟨j + 1, i + 1, _, _, _, _, _, _, _, by have := HIJ.out; omega, by omega, HN, rfl, rfl, by go_num, rfl, rfl, rfl, rfl, rfl, rfl⟩
                  · simp [intOf]; omega
                · rw [Int.not_lt] at hn
                  have hn' := hid (Int.not_lt.2 hn)
                  have HN : Hid (rfAt s 1 (j + 1) = ⟨mant, wrap64 (nd + 1), ndm, dp, dot, trunc, true⟩) := hid (by rw [rfAt, HRF.out, ← hij]; simp [rfStep, hz, hnd, hn'.out])
                  have HIJ := hid hij
                  clear hij
                  go_wp2_with fail
                  go_round
                  · exact ⟨j + 1, i + 1, _, _, _, _, _, _, _, by have := HIJ.out; omega, by omega, HN, rfl, rfl, by go_num, rfl, rfl, rfl, rfl, rfl, rfl⟩
                  · simp [intOf]; omega
            · have hzb : (bt s i == 48) = false := by simpa using hz
              by_cases hn : ndm < 19
              · skip
                have HN : Hid (rfAt s 1 (j + 1) = ⟨IntKind.u64.wrap (IntKind.u64.wrap (mant * 10) + (bt s i - 48)), wrap64 (nd + 1), wrap64 (ndm + 1), dp, dot, trunc, true⟩) := hid (by rw [rfAt, HRF.out, ← hij]; simp [rfStep, n46, hz, hn])
                have HIJ := hid hij
                clear hij
                go_wp2_with fail
                go_round
                · exact ⟨j + 1, i + 1, _, _, _, _, _, _, _, by have := HIJ.out; omega, by omega, HN, rfl, rfl, by go_num, rfl, rfl, rfl, rfl, rfl, rfl⟩
                · simp [intOf]; omega
              · rw [Int.not_lt] at hn
                have hn' := hid (Int.not_lt.2 hn)
                have HN : Hid (rfAt s 1 (j + 1) = ⟨mant, wrap64 (nd + 1), ndm, dp, dot, true, true⟩) := hid (by rw [rfAt, HRF.out, ← hij]; simp [rfStep, n46, hz, hn'.out])
                have HIJ := hid hij
                clear hij
                go_wp2_with fail
                go_round
                · exact ⟨j + 1, i + 1, _, _, _, _, _, _, _, by have := HIJ.out; omega, by omega, HN, rfl, rfl, by go_num, rfl, rfl, rfl, rfl, rfl, rfl⟩
                · simp [intOf]; omega
        · have hie : i = e := by omega
          subst hie
          have hnl : ¬ (i : Int) < (s.size : Int) := by omega
          have hdg : digs = true := by
            have := rf_digs (s := s) (i0 := 1) HD.out.first.1 (j - 1)
            rw [show j - 1 + 1 = j by omega, HRF.out] at this
            exact this
          subst hdg
          have hre : r = ⟨mant, nd, ndm, dp, dot, trunc, true⟩ := by rw [← HR.out, show i - 1 = j by omega]; exact HRF.out
          subst hre
          clear hij
          have hie2 : (i : Int) = (s.size : Int) := by omega
          have hnl2 : (s.size : Int) ≤ (i : Int) := by omega
          by_cases hm : mant = 0
          · subst hm
            cases dot
            all_goals
              go_wp2_with fail
              refine bodyPost_ret (v := .tuple #[.int .u64 0, .int .i64 0, .bool true, .bool trunc, .bool false, .int .i64 s.size, .bool true]) (by simp [results, Tryz.results117, go_sem]) rfl ⟨?_, rfl⟩
              simp [rfExp]
          · have hmb : (mant == 0) = false := by simpa using hm
            cases dot
            · go_wp2_with fail
              refine bodyPost_ret (v := .tuple #[.int .u64 mant, .int .i64 (wrap64 (nd - ndm)), .bool true, .bool trunc, .bool false, .int .i64 s.size, .bool true]) (by simp [results, Tryz.results117, go_sem]) rfl ⟨?_, rfl⟩
              simp [rfExp, hm]
            · go_wp2_with fail
              refine bodyPost_ret (v := .tuple #[.int .u64 mant, .int .i64 (wrap64 (dp - ndm)), .bool true, .bool trunc, .bool false, .int .i64 s.size, .bool true]) (by simp [results, Tryz.results117, go_sem]) rfl ⟨?_, rfl⟩
              simp [rfExp, hm]
end Go.Proofs.YtcmhfeeocehlaaaGreatDoor
namespace Go.Proofs.YtcmhfeeocehlaaaGreatDoor
set_option linter.unusedSimpArgs false
set_option linter.unusedVariables false
open Go.RowKit Go.PlainAid
attribute [local go_sem ↓] Go.wp_at_zero Go.wp_at_succ

set_option maxHeartbeats 16000000 in
set_option maxRecDepth 100000 in
theorem readFloat_plainP (s : ByteArray) (e : Nat) (w : World) (h : Rtx s) (hd : Dgs s 0 e) (h0 : ¬ bt s 0 = 45) (r : RF) (hr : rfAt s 0 (e - 0) = r) (he : e = s.size) :
    Calls Tryz.prog 117 #[.string s] w fun en w' => en = .returned (.tuple #[.int .u64 r.mant, .int .i64 (rfExp r none), .bool false, .bool r.trunc, .bool false, .int .i64 s.size, .bool true]) ∧ w' = w := by
  have hb := get_bt s
  have hp := h.pos
  have hsm := h.small
  have HL := hid (fun k (hk : k < s.size) => lower_rb (bt s k) (h.all k hk))
  have HD := hid hd
  have HR := hid hr
  have hi0 := hd.lt
  have hle := hd.le
  have hii : (0 : Int) < s.size := by omega
  have hne : ¬ s = ByteArray.empty := by intro e; rw [e] at hp; simp at hp
  have hx2 : (bt s (0 + 1) == 120) = false := by
    by_cases h2 : 0 + 1 < s.size
    · have := h.all (0 + 1) h2
      unfold Rb at this
      simp only [beq_eq_false_iff_ne, ne_eq]; omega
    · rw [bt_end s (by omega)]; decide
  simp only [Nat.reduceAdd] at hx2
  have hn43 : ¬ bt s 0 = 43 := by have := h.all 0 h.pos; unfold Rb at this; omega
  have hb43 : (bt s 0 == 43) = false := by simpa using hn43
  have hb45 : (bt s 0 == 45) = false := by simpa using h0
  clear h hd hr
  go_enter Tryz.func117, Tryz.ntmps117
  go_wp2_with fail
  go_step3
  go_upto_region 12 with fail
  go_cut [54] (fun c wx => c = .bool false ∧ wx = w)
  case first =>
    cases hq48 : (bt s 0 == 48)
    all_goals
      go_wp2_with (go_at_call 140; refine (HL.out _ (by omega) _).mono ?_; rintro en w' ⟨rfl, rfl⟩)
      all_goals go_meet
      all_goals exact ⟨rfl, rfl⟩
  case rest =>
      obtain ⟨rfl, rfl⟩ := hcut
      go_wp2_with fail
      go_step3
      go_wp2_with fail
      go_loop [2, 5, 7, 9, 13, 14, 15, 16, 17] (fun v2 v5 v7 v9 v13 v14 v15 v16 v17 => ∃ (j i : Nat) (mant nd ndm dp : Int) (dot trunc digs : Bool), i = 0 + j ∧ i ≤ e ∧ Hid (rfAt s 0 j = ⟨mant, nd, ndm, dp, dot, trunc, digs⟩) ∧ v2 = .int .u64 mant ∧ v5 = .bool trunc ∧ v7 = .int .i64 (i : Int) ∧ v9 = .bool false ∧ v13 = .bool dot ∧ v14 = .bool digs ∧ v15 = .int .i64 nd ∧ v16 = .int .i64 ndm ∧ v17 = .int .i64 dp) (fun _ _ v7 _ _ _ _ _ _ => s.size - (intOf v7).toNat)
      case atStart => exact ⟨0, 0, 0, 0, 0, 0, false, false, false, rfl, by omega, hid rfl, rfl, rfl, rfl, rfl, rfl, rfl, rfl, rfl, rfl⟩
      case round =>
        obtain ⟨j, i, mant, nd, ndm, dp, dot, trunc, digs, hij, hi, HRF, rfl, rfl, rfl, rfl, rfl, rfl, rfl, rfl, rfl⟩ := hrel
        by_cases hlt : i < e
        · have hli : (i : Int) < (s.size : Int) := by omega
          rcases HD.out.all i (by omega) hlt with hc | ⟨hc1, hc2⟩
          · have hdot : dot = false := by
              cases hdt : dot with
              | false => rfl
              | true =>
                obtain ⟨k, k1, k2, k3⟩ := rf_dot (s := s) (i0 := 0) j (by rw [HRF.out]; exact hdt)
                exact absurd hc (HD.out.one k i k1 (by omega) hlt k3)
            subst hdot
            have HN : Hid (rfAt s 0 (j + 1) = ⟨mant, nd, ndm, nd, true, trunc, digs⟩) := hid (by rw [rfAt, HRF.out, ← hij]; simp [rfStep, hc])
            have HIJ := hid hij
            clear hij
            go_wp2_with fail
            go_round
            · exact ⟨j + 1, i + 1, _, _, _, _, _, _, _, by have := HIJ.out; omega, by omega, HN, rfl, rfl, by go_num, rfl, rfl, rfl, rfl, rfl, rfl⟩
            · simp [intOf]; omega
          · have c95 : (bt s i == 95) = false := by simp only [beq_eq_false_iff_ne, ne_eq]; omega
            have c46 : (bt s i == 46) = false := by simp only [beq_eq_false_iff_ne, ne_eq]; omega
            have n46 : ¬ bt s i = 46 := by omega
            have e8 : IntKind.u8.wrap (bt s i - 48) = bt s i - 48 := by rw [IntKind.wrap_u8]; omega
            by_cases hz : bt s i = 48
            · have hzb : (bt s i == 48) = true := by simp [hz]
              by_cases hnd : nd = 0
              · subst hnd
                have HN : Hid (rfAt s 0 (j + 1) = ⟨mant, 0, ndm, wrap64 (dp - 1), dot, trunc, true⟩) := hid (by rw [rfAt, HRF.out, ← hij]; simp [rfStep, n46, hz])
                have HIJ := hid hij
                clear hij
                go_wp2_with fail
                go_round
                · exact ⟨j + 1, i + 1, _, _, _, _, _, _, _, by have := HIJ.out; omega, by omega, HN, rfl, rfl, by go_num, rfl, rfl, rfl, rfl, rfl, rfl⟩
                · simp [intOf]; omega
              · have hndb : (nd == 0) = false := by simpa using hnd
                by_cases hn : ndm < 19
                · skip
                  have HN : Hid (rfAt s 0 (j + 1) = ⟨IntKind.u64.wrap (IntKind.u64.wrap (mant * 10)), wrap64 (nd + 1), wrap64 (ndm + 1), dp, dot, trunc, true⟩) := hid (by rw [rfAt, HRF.out, ← hij]; simp [rfStep, hz, hnd, hn])
                  have HIJ := hid hij
                  clear hij
                  go_wp2_with fail
                  go_round
                  · exact ⟨j + 1, i + 1, _, _, _, _, _, _, _, by have := HIJ.out; omega, by omega, HN, rfl, rfl, by go_num, rfl, rfl, rfl, rfl, rfl, rfl⟩
                  · simp [intOf]; omega
                · rw [Int.not_lt] at hn
                  have hn' := hid (Int.not_lt.2 hn)
                  have HN : Hid (rfAt s 0 (j + 1) = ⟨mant, wrap64 (nd + 1), ndm, dp, dot, trunc, true⟩) := hid (by rw [rfAt, HRF.out, ← hij]; simp [rfStep, hz, hnd, hn'.out])
                  have HIJ := hid hij
                  clear hij
                  go_wp2_with fail
                  go_round
                  · exact ⟨j + 1, i + 1, _, _, _, _, _, _, _, by have := HIJ.out; omega, by omega, HN, rfl, rfl, by go_num, rfl, rfl, rfl, rfl, rfl, rfl⟩
                  · simp [intOf]; omega
            · have hzb : (bt s i == 48) = false := by simpa using hz
              by_cases hn : ndm < 19
              · skip
                have HN : Hid (rfAt s 0 (j + 1) = ⟨IntKind.u64.wrap (IntKind.u64.wrap (mant * 10) + (bt s i - 48)), wrap64 (nd + 1), wrap64 (ndm + 1), dp, dot, trunc, true⟩) := hid (by rw [rfAt, HRF.out, ← hij]; simp [rfStep, n46, hz, hn])
                have HIJ := hid hij
                clear hij
                go_wp2_with fail
                go_round
                · exact ⟨j + 1, i + 1, _, _, _, _, _, _, _, by have := HIJ.out; omega, by omega, HN, rfl, rfl, by go_num, rfl, rfl, rfl, rfl, rfl, rfl⟩
                · simp [intOf]; omega
              · rw [Int.not_lt] at hn
                have hn' := hid (Int.not_lt.2 hn)
                have HN : Hid (rfAt s 0 (j + 1) = ⟨mant, wrap64 (nd + 1), ndm, dp, dot, true, true⟩) := hid (by rw [rfAt, HRF.out, ← hij]; simp [rfStep, n46, hz, hn'.out])
                have HIJ := hid hij
                clear hij
                go_wp2_with fail
                go_round
                · exact ⟨j + 1, i + 1, _, _, _, _, _, _, _, by have := HIJ.out; omega, by omega, HN, rfl, rfl, by go_num, rfl, rfl, rfl, rfl, rfl, rfl⟩
                · simp [intOf]; omega
        · have hie : i = e := by omega
          subst hie
          have hnl : ¬ (i : Int) < (s.size : Int) := by omega
          have hdg : digs = true := by
            have := rf_digs (s := s) (i0 := 0) HD.out.first.1 (j - 1)
            rw [show j - 1 + 1 = j by omega, HRF.out] at this
            exact this
          subst hdg
          have hre : r = ⟨mant, nd, ndm, dp, dot, trunc, true⟩ := by rw [← HR.out, show i - 0 = j by omega]; exact HRF.out
          subst hre
          clear hij
          have hie2 : (i : Int) = (s.size : Int) := by omega
          have hnl2 : (s.size : Int) ≤ (i : Int) := by omega
          by_cases hm : mant = 0
          · subst hm
            cases dot
            all_goals
              go_wp2_with fail
              refine bodyPost_ret (v := .tuple #[.int .u64 0, .int .i64 0, .bool false, .bool trunc, .bool false, .int .i64 s.size, .bool true]) (by simp [results, Tryz.results117, go_sem]) rfl ⟨?_, rfl⟩
              simp [rfExp]
          · have hmb : (mant == 0) = false := by simpa using hm
            cases dot
            · go_wp2_with fail
              refine bodyPost_ret (v := .tuple #[.int .u64 mant, .int .i64 (wrap64 (nd - ndm)), .bool false, .bool trunc, .bool false, .int .i64 s.size, .bool true]) (by simp [results, Tryz.results117, go_sem]) rfl ⟨?_, rfl⟩
              simp [rfExp, hm]
            · go_wp2_with fail
              refine bodyPost_ret (v := .tuple #[.int .u64 mant, .int .i64 (wrap64 (dp - ndm)), .bool false, .bool trunc, .bool false, .int .i64 s.size, .bool true]) (by simp [results, Tryz.results117, go_sem]) rfl ⟨?_, rfl⟩
              simp [rfExp, hm]
end Go.Proofs.YtcmhfeeocehlaaaGreatDoor
