/-
  The reference's lexer: numbers.
-/
import Derived.Test.YtcmhfeeocehlaaaGreatDoorRLexB
import Derived.Deep.DeepCutAuto
import Derived.Deep.CutBlock
import Derived.Deep.CutRange
namespace Go.Proofs.YtcmhfeeocehlaaaGreatDoor
set_option linter.unusedSimpArgs false
set_option linter.unusedVariables false
open Go.RowKit Go.PlainAid
attribute [local go_sem ↓] Go.wp_at_zero Go.wp_at_succ

set_option maxHeartbeats 4000000 in
set_option maxRecDepth 100000 in
theorem rnumber_int (rb : ByteArray → Nat) (s : ByteArray) (a : Nat) (w : World) (hs : s.size ≤ 65536) (hn : isNum s a = true) (hew : numE s a = whole s a) :
    Calls Tryz.prog 42 #[.string s, .int .i64 (a : Int)] w (WPost w (numW (fun x => (rb x : Int)) s a).z) := by
  obtain ⟨h1, h2, h3, h4⟩ := nuD_lt hn
  obtain ⟨h5, h6⟩ := whole_lt hn
  obtain ⟨h7, h8⟩ := numE_ge hn
  have hfr := frac_ge s (whole s a) h6
  have hxp := expo_ge s (frac s (whole s a)) hfr.2
  have hal : a < s.size := by omega
  have hb := get_bt s a hal
  have HD1 := hid (fun w => rdigits_raw s (nuD s a) w hs (by omega))
  have hwh : whole s a = run isD s (nuD s a) := rfl
  rw [← hwh] at HD1
  have hda : nuD s a = if bt s a = 126 then a + 1 else a := rfl
  have hfa : frac s (whole s a) = if bt s (whole s a) = 46 ∧ isD (bt s (whole s a + 1)) = true then run isD s (whole s a + 1) else whole s a := rfl
  have hea : numE s a = if bt s (frac s (whole s a)) = 101 ∧ isD (bt s (exD s (frac s (whole s a)))) = true then run isD s (exD s (frac s (whole s a))) else frac s (whole s a) := rfl
  obtain ⟨O, hO⟩ : ∃ O, (numW (fun x => (rb x : Int)) s a).z = O := ⟨_, rfl⟩
  rw [hO]
  unfold numW at hO
  have HDG := hid (fun k => run_all (p := isD) (s := s) (a := nuD s a) (k := k))
  rw [← hwh] at HDG
  clear hwh hn
  obtain ⟨e, he⟩ : ∃ e, numE s a = e := ⟨_, rfl⟩
  obtain ⟨f, hf⟩ : ∃ f, frac s (whole s a) = f := ⟨_, rfl⟩
  obtain ⟨wh, hwh⟩ : ∃ wh, whole s a = wh := ⟨_, rfl⟩
  obtain ⟨d, hd⟩ : ∃ d, nuD s a = d := ⟨_, rfl⟩
  rw [hf] at hfa hfr hxp hea
  rw [he] at hea h7 h8 hO hew
  rw [hwh] at hfa hfr h5 h6 h7 HD1 hO HDG hew
  rw [hd] at h1 h2 h3 h4 h5 HD1 hda HDG
  clear he hf hwh hd
  have HO := hid hO
  have HEW := hid hew
  have HDA := hid hda
  have HFA := hid hfa
  have HEA := hid hea
  have hxe : f ≤ e := by
    rw [hea]
    split
    · have hx1 : f + 1 ≤ exD s f := by unfold exD; split <;> omega
      have := run_ge isD s (exD s f); omega
    · exact Nat.le_refl _
  obtain ⟨hf1, hf2⟩ := hfr
  have HAT := hid (fun k w => rat_raw s k w)
  clear hda hfa hea hxp hO h2 hew
  go_enter Tryz.func42, Tryz.ntmps42
  go_upto_if 21 with fail
  go_cut [7] (fun v7 wx => v7 = .int .i64 (d : Int) ∧ wx = (w.alloc (.cells #[.int .i64 0, .string ⟨#[]⟩, .bool false, .slice none 0 0, .int .u64 0, .int .i64 0, .int .i64 0] 39)).alloc (.cells #[.int .i64 0, .int .i64 0] 26))
  case first =>
    have hda := HDA.out
    by_cases hq : bt s a = 126
    · rw [if_pos hq] at hda
      have hq' : (bt s a == 126) = true := by simpa using hq
      clear hq
      go_wp2_with fail
      go_meet
      exact ⟨by rw [hda]; simp, rfl⟩
    · rw [if_neg hq] at hda
      have hq' : (bt s a == 126) = false := by simpa using hq
      clear hq
      go_wp2_with fail
      go_meet
      exact ⟨by rw [hda], rfl⟩
  case rest =>
    obtain ⟨rfl, rfl⟩ := hcut
    go_upto_region 7 with (first
      | (go_at_call 63; refine (HD1.out _).mono ?_; rintro en w' ⟨rfl, rfl⟩)
      | fail)
    have HA1 := hid (fun w => HAT.out wh w)
    have HA2 := hid (fun w => HAT.out (wh + 1) w)
    have HG2 := hid (fun w => rdigit_raw (bt s (wh + 1)) w (bt_nonneg s _) (bt_le s _))
    rw [cast1] at HA2
    go_cut [39] (fun c wx => c = .bool (bt s wh == 46 && isD (bt s (wh + 1))) ∧ wx = (w.alloc (.cells #[.int .i64 0, .string ⟨#[]⟩, .bool false, .slice none 0 0, .int .u64 0, .int .i64 0, .int .i64 0] 39)).alloc (.cells #[.int .i64 0, .int .i64 0] 26))
    case first =>
      by_cases hq : bt s wh = 46
      · rw [hq] at HA1
        go_wp2_with (first
          | (go_at_call 38; first | (refine (HA1.out _).mono ?_; rintro en w' ⟨rfl, rfl⟩; clear HA1) | (refine (HA2.out _).mono ?_; rintro en w' ⟨rfl, rfl⟩))
          | (go_at_call 41; refine (HG2.out _).mono ?_; rintro en w' ⟨rfl, rfl⟩))
        go_meet
        exact ⟨by rw [hq]; rfl, rfl⟩
      · have hq' : (bt s wh == 46) = false := by simpa using hq
        clear hq
        go_wp2_with (first
          | (go_at_call 38; refine (HA1.out _).mono ?_; rintro en w' ⟨rfl, rfl⟩))
        go_meet
        exact ⟨by rw [hq']; rfl, rfl⟩
    case rest =>
      obtain ⟨rfl, rfl⟩ := hcut
      clear HA1 HA2 HG2
      go_upto_if 39 with fail
      go_cut [7] (fun v7 wx => v7 = .int .i64 (f : Int) ∧ wx = (w.alloc (.cells #[.int .i64 0, .string ⟨#[]⟩, .bool false, .slice none 0 0, .int .u64 0, .int .i64 0, .int .i64 0] 39)).alloc (.cells #[.int .i64 0, .int .i64 0] 26))
      case first =>
        have hfa := HFA.out
        cases hB : (bt s wh == 46 && isD (bt s (wh + 1))) with
        | true =>
          have hB' : bt s wh = 46 ∧ isD (bt s (wh + 1)) = true := by simpa using hB
          rw [if_pos hB'] at hfa
          have hlt := lt_of_p isD_0 hB'.2
          have HD2 := hid (fun w => rdigits_raw s (wh + 1) w hs (by omega))
          rw [cast1, ← hfa] at HD2
          clear hfa hB'
          go_wp2_with (go_at_call 63; refine (HD2.out _).mono ?_; rintro en w' ⟨rfl, rfl⟩)
          go_meet
          exact ⟨rfl, rfl⟩
        | false =>
          have hB' : ¬ (bt s wh = 46 ∧ isD (bt s (wh + 1)) = true) := by simpa using hB
          rw [if_neg hB'] at hfa
          clear hB'
          go_wp2_with fail
          go_meet
          exact ⟨by rw [hfa], rfl⟩
      case rest =>
        obtain ⟨rfl, rfl⟩ := hcut
        have HA1 := hid (fun w => HAT.out f w)
        go_upto_if 47 with (first
          | (go_at_call 38; refine (HA1.out _).mono ?_; rintro en w' ⟨rfl, rfl⟩)
          | fail)
        go_cut [7, 10] (fun v7 _ wx => v7 = .int .i64 (e : Int) ∧ wx = (w.alloc (.cells #[.int .i64 0, .string ⟨#[]⟩, .bool false, .slice none 0 0, .int .u64 0, .int .i64 0, .int .i64 0] 39)).alloc (.cells #[.int .i64 0, .int .i64 0] 26))
        case first =>
          have hea := HEA.out
          clear HA1
          by_cases hq : bt s f = 101
          · have hq' : (bt s f == 101) = true := by simpa using hq
            have hlt := lt_of_bt (s := s) (a := f) (by omega)
            have HA2 := hid (fun w => HAT.out (f + 1) w)
            rw [cast1] at HA2
            by_cases ht : bt s (f + 1) = 126
            · have hx : exD s f = f + 2 := by unfold exD; rw [if_pos ht]
              rw [hx] at hea
              rw [ht] at HA2
              have hlt2 := lt_of_bt (s := s) (a := f + 1) (by omega)
              have hcast2 : ((f + 2 : Nat) : Int) = (f : Int) + 1 + 1 := by omega
              have HA3 := hid (fun w => HAT.out (f + 2) w)
              rw [hcast2] at HA3
              have HG3 := hid (fun w => rdigit_raw (bt s (f + 2)) w (bt_nonneg s _) (bt_le s _))
              have HD3 := hid (fun w => rdigits_raw s (f + 2) w hs (by omega))
              rw [hcast2] at HD3
              cases hD : isD (bt s (f + 2)) with
              | true =>
                rw [hD] at HG3
                rw [if_pos ⟨hq, hD⟩] at hea
                rw [← hea] at HD3
                clear hea hq ht hx hD hcast2
                go_wp2_with (first
                  | (go_at_call 38; first | (refine (HA2.out _).mono ?_; rintro en w' ⟨rfl, rfl⟩; clear HA2) | (refine (HA3.out _).mono ?_; rintro en w' ⟨rfl, rfl⟩))
                  | (go_at_call 41; refine (HG3.out _).mono ?_; rintro en w' ⟨rfl, rfl⟩)
                  | (go_at_call 63; refine (HD3.out _).mono ?_; rintro en w' ⟨rfl, rfl⟩))
                go_meet
                exact ⟨rfl, rfl⟩
              | false =>
                rw [hD] at HG3
                rw [if_neg (fun h => by rw [hD] at h; cases h.2)] at hea
                clear hq ht hx hD HD3 hcast2
                go_wp2_with (first
                  | (go_at_call 38; first | (refine (HA2.out _).mono ?_; rintro en w' ⟨rfl, rfl⟩; clear HA2) | (refine (HA3.out _).mono ?_; rintro en w' ⟨rfl, rfl⟩))
                  | (go_at_call 41; refine (HG3.out _).mono ?_; rintro en w' ⟨rfl, rfl⟩))
                go_meet
                exact ⟨by rw [hea], rfl⟩
            · have hx : exD s f = f + 1 := by unfold exD; rw [if_neg ht]
              rw [hx] at hea
              have ht' : (bt s (f + 1) == 126) = false := by simpa using ht
              have HG3 := hid (fun w => rdigit_raw (bt s (f + 1)) w (bt_nonneg s _) (bt_le s _))
              have HD3 := hid (fun w => rdigits_raw s (f + 1) w hs (by omega))
              rw [cast1] at HD3
              cases hD : isD (bt s (f + 1)) with
              | true =>
                rw [hD] at HG3
                rw [if_pos ⟨hq, hD⟩] at hea
                rw [← hea] at HD3
                clear hea hq ht hx hD
                go_wp2_with (first
                  | (go_at_call 38; refine (HA2.out _).mono ?_; rintro en w' ⟨rfl, rfl⟩)
                  | (go_at_call 41; refine (HG3.out _).mono ?_; rintro en w' ⟨rfl, rfl⟩)
                  | (go_at_call 63; refine (HD3.out _).mono ?_; rintro en w' ⟨rfl, rfl⟩))
                go_meet
                exact ⟨rfl, rfl⟩
              | false =>
                rw [hD] at HG3
                rw [if_neg (fun h => by rw [hD] at h; cases h.2)] at hea
                clear hq ht hx hD HD3
                go_wp2_with (first
                  | (go_at_call 38; refine (HA2.out _).mono ?_; rintro en w' ⟨rfl, rfl⟩)
                  | (go_at_call 41; refine (HG3.out _).mono ?_; rintro en w' ⟨rfl, rfl⟩))
                go_meet
                exact ⟨by rw [hea], rfl⟩
          · rw [if_neg (fun h => hq h.1)] at hea
            have hq' : (bt s f == 101) = false := by simpa using hq
            clear hq
            go_wp2_with fail
            go_meet
            exact ⟨by rw [hea], rfl⟩
        case rest =>
          obtain ⟨rfl, rfl⟩ := hcut
          clear HA1 HAT HEA HFA
          have hO := HO.out
          have hwx : IntKind.i64.wrap ((e : Int) - (a : Int)) = ((e - a : Nat) : Int) := by rw [IntKind.wrap_i64]; omega
          have hew := HEW.out
          clear HEW
          rw [if_pos hew] at hO
          subst hew
          by_cases hl : 2000 < e - a
          · rw [if_pos hl] at hO
            subst hO
            have hlI : (2000 : Int) < ((e - a : Nat) : Int) := by omega
            clear hl HO
            have HC := hid (fun w => rbad_raw 32 (a : Int) w)
            clear HDG HD1 HDA
            go_wp2_with (go_at_call 16; refine (HC.out _).mono ?_; rintro en w1 ⟨rfl, ht⟩; simp only [msV]; obtain ⟨⟨k1, f1⟩, ⟨k2, f2⟩, s1, s2, hz⟩ := two_blocks ht; have HS1 := hid (fun i (hi : i < 7) => s1 i hi); have HS2 := hid (fun i (hi : i < 2) => s2 i hi); clear s1 s2; have k10 := k1 0; have k11 := k1 1; have k12 := k1 2; have k13 := k1 3; have k14 := k1 4; have k15 := k1 5; have k16 := k1 6; have k20 := k2 0; have k21 := k2 1; simp at k10 k11 k12 k13 k14 k15 k16 k20 k21; clear k1 k2; have HT := hid ht; clear ht; have hzA := Nat.lt_of_lt_of_le (Nat.lt_add_of_pos_right (by decide : 0 < 2)) hz; have hzB := Nat.lt_of_lt_of_le (Nat.add_lt_add_left (by decide : 1 < 2) _) hz)
            change bodyPost _ _ _ _ _ (put9 w1 w.heap.size (w.heap.size + 1) _ _ _ _ _ _ _ _ _)
            refine put9_all (bodyPost _ _ _ _ _) (by omega) HS1.out HS2.out ?_; rintro W ⟨q0, q1, q2, q3, q4, q5, q6, r0, r1⟩ hoth hsz htn; have HTN := hid (htn w (Tn.thenNo (((Tn.refl No w).alloc _).alloc _) HT.out) (by omega) (by omega)); clear htn
            refine bodyPost_ret (v := .tuple #[noTk, .int .i64 0, msV 32 (a : Int)]) (by simp [results, Tryz.results42, go_sem, noTk, tkV, msV, q0, q1, q2, q3, q4, q5, q6, r0, r1]) rfl ?_
            exact ⟨HTN.out, _, _, _, _, _, _, _, _, _, _, _, _, rfl, rfl, rfl, rfl, rfl, rfl, rfl, rfl, rfl, rfl, rfl⟩
          · rw [if_neg hl] at hO
            have hlI : decide ((2000 : Int) < ((e - a : Nat) : Int)) = false := by rw [decide_eq_false_iff_not]; omega
            have hlN : e - a ≤ 2000 := by omega
            subst hO
            clear hl HO HD1
            go_wp2_with fail
            go_loop [8] (fun i => ∃ j : Nat, d ≤ j ∧ j < e ∧ i = .int .i64 (j : Int) ∧ Hid (dval (s.extract j e).data.toList = dval (s.extract d e).data.toList)) (fun i => e - (intOf i).toNat)
            case atStart => exact ⟨d, Nat.le_refl _, h5, rfl, hid rfl⟩
            case round =>
              obtain ⟨j, hj1, hj2, rfl, HV⟩ := hrel
              have hjs : j < s.size := by omega
              have hbj := get_bt s j hjs
              have hwe : IntKind.i64.wrap ((e : Int) - 1) = ((e - 1 : Nat) : Int) := by rw [IntKind.wrap_i64]; omega
              have hjI : (j : Int) < (s.size : Int) := by omega
              by_cases hlast : j + 1 = e
              · have hc : decide ((j : Int) < ((e - 1 : Nat) : Int)) = false := by rw [decide_eq_false_iff_not]; omega
                have hc2 : e - 1 ≤ j := by omega
                have HZ : j + 1 = e ∨ ¬ bt s j = 48 := .inl hlast
                have HZH := hid HZ
                clear hlast HZ
                have HP := hid (fun w => by have := rparse_seg s j e w hs hj2 h8 (fun k h1 h2 => HDG.out k (by omega) h2) HZH.out; rw [HV.out] at this; exact this)
                clear HV HDG
                by_cases hq : bt s a = 126
                · have hda := HDA.out
                  rw [if_pos hq] at hda
                  have hzo := zof_neg s a e (by omega) h8 hq
                  rw [← hda] at hzo
                  have HZO := hid hzo
                  have hq' : (bt s a == 126) = true := by simpa using hq
                  clear hq hda hzo HDA
                  go_wp2_with (first
                    | (go_at_call 64; refine (HP.out _).mono ?_; rintro en w5 ⟨ng, sa, l, rfl, ho, hnr, hsl, hiv, hlk, hg⟩; have ht5 : Tn No (two0 w) w5 := Tn.ofgb hg; have HT5 := hid ht5; have HOW := hid ho; have HIV := hid hiv; clear ht5 ho hiv hnr hsl hlk hg)
                    | (go_at_call 65; refine (rneg_raw ng sa _ _ l _ (HOW.out.sl.grown (((Tn.refl No w5).alloc _).no))).mono ?_; rintro en w6 ⟨s6, a6, l6, rfl, ho6, hn6, hs6, hi6, hk6, hg6⟩; have HNB := hid (NB.neg HT5.out (Tn.ofgb hg6) ⟨a6, l6, rfl, (by simpa using ho6), hn6, hs6, (by rw [hi6, HIV.out, ← HZO.out])⟩); have hg6s := (Tn.ofgb hg6).size; obtain ⟨k6, f6, z6⟩ := one_block (Tn.ofgb hg6); have k60 := k6 0; have k61 := k6 1; simp at k60 k61; clear k6 ho6 hn6 hs6 hi6 hk6 hg6))
                  obtain ⟨w3, h3⟩ : ∃ w3, (w6.setCell ⟨w5.heap.size, 0, none⟩ (.bool s6)).setCell ⟨w5.heap.size, 1, none⟩ (.slice a6 l6.length l6.length) = w3 := ⟨_, rfl⟩
                  rw [h3] at HNB ⊢
                  obtain ⟨gx, hgx⟩ : ∃ g, w5.heap.size = g := ⟨_, rfl⟩
                  rw [hgx] at HNB ⊢
                  have nb := HNB.out
                  obtain ⟨⟨ka, fa⟩, ⟨kb, fb⟩, sa7, sb2, hz2⟩ := nb.facts
                  have e0 : w3.cell? ⟨w.heap.size, 0, none⟩ = some (.int .i64 0) := ka 0
                  have e1 : w3.cell? ⟨w.heap.size, 1, none⟩ = some (.string ⟨#[]⟩) := ka 1
                  have e2 : w3.cell? ⟨w.heap.size, 2, none⟩ = some (.bool false) := ka 2
                  have e3 : w3.cell? ⟨w.heap.size, 3, none⟩ = some (.slice none 0 0) := ka 3
                  have e4 : w3.cell? ⟨w.heap.size, 4, none⟩ = some (.int .u64 0) := ka 4
                  have e5 : w3.cell? ⟨w.heap.size, 5, none⟩ = some (.int .i64 0) := ka 5
                  have e6 : w3.cell? ⟨w.heap.size, 6, none⟩ = some (.int .i64 0) := ka 6
                  have e7 : w3.cell? ⟨w.heap.size + 1, 0, none⟩ = some (.int .i64 0) := kb 0
                  have e8 : w3.cell? ⟨w.heap.size + 1, 1, none⟩ = some (.int .i64 0) := kb 1
                  have m0 := nb.g0
                  have m1 := nb.g1
                  have hge := nb.ge
                  have HTW : Hid (Tn No w w3) := hid (Tn.thenNo (((Tn.refl No w).alloc _).alloc _) nb.tw)
                  have HSA := hid sa7
                  have HSB := hid sb2
                  have HNW := hid nb.num
                  have hzA : w.heap.size < w3.heap.size := by omega
                  have hzB : w.heap.size + 1 < w3.heap.size := by omega
                  have gn1 : gx ≠ w.heap.size := by omega
                  have gn2 : gx ≠ w.heap.size + 1 := by omega
                  clear nb ka kb sa7 sb2 HNB hgx h3 HZO HP HT5 HOW HIV k60 k61 hg6s z6 f6
                  go_region
                  all_goals go_wp2_with fail
                  change bodyPost _ _ _ _ _ (((put9 w3 w.heap.size (w.heap.size + 1) _ _ _ _ _ _ _ _ _)).drew); refine put9_all (fun W => bodyPost _ _ _ _ _ ((W).drew)) (by omega) HSA.out HSB.out ?_; rintro W ⟨q0, q1, q2, q3, q4, q5, q6, r0, r1⟩ hoth hsz htn; have HTN := hid (htn w HTW.out (by omega) (by omega)); clear htn; have hgA : w.heap.size < W.heap.size := (by omega); have hgB : w.heap.size + 1 < W.heap.size := (by omega); refine bodyPost_ret (v := .tuple #[tkV 4 (s.extract a e) s6 (.slice a6 l6.length l6.length) 0 0 0, .int .i64 (e : Int), msV 0 0]) (by simp [results, Tryz.results42, go_sem, tkV, noTk, msV, q0, q1, q2, q3, q4, q5, q6, r0, r1, hgA, hgB]) rfl ?_
                  exact ⟨HTN.out.drew, _, _, _, _, _, _, _, _, _, _, _, _, rfl, rfl, rfl, rfl, rfl, rfl, rfl, rfl, rfl, (HNW.out.blocks (w' := W.drew) (by show w3.heap.size ≤ W.heap.size; omega) (fun b hb _ => hoth b (by omega) (by omega))).mono (by omega)⟩
                · have hda := HDA.out
                  rw [if_neg hq] at hda
                  have hzo := zof_pos s a e (by omega) h8 hq
                  rw [show s.extract a e = s.extract d e by rw [hda]] at hzo
                  have hzo' : zof (s.extract a e).data.toList = (dval (s.extract d e).data.toList : Int) := by rw [← hzo, hda]
                  have HZO := hid hzo'
                  have hq' : (bt s a == 126) = false := by simpa using hq
                  clear hq hda hzo hzo' HDA
                  go_wp2_with (first
                    | (go_at_call 64; refine (HP.out _).mono ?_; rintro en w5 ⟨ng, sa, l, rfl, ho, hnr, hsl, hiv, hlk, hg⟩; have ht5 : Tn No (two0 w) w5 := Tn.ofgb hg; have HNB := hid (NB.pos ht5 ⟨sa, l, rfl, ho, hnr, hsl, (by rw [hiv, ← HZO.out])⟩); clear ht5 ho hiv hnr hsl hlk hg)
                    | fail)
                  obtain ⟨w3, h3⟩ : ∃ w3, w5.alloc (.cells #[.bool ng, .slice sa l.length l.length] 35) = w3 := ⟨_, rfl⟩
                  rw [h3] at HNB ⊢
                  obtain ⟨gx, hgx⟩ : ∃ g, w5.heap.size = g := ⟨_, rfl⟩
                  rw [hgx] at HNB ⊢
                  have nb := HNB.out
                  obtain ⟨⟨ka, fa⟩, ⟨kb, fb⟩, sa7, sb2, hz2⟩ := nb.facts
                  have e0 : w3.cell? ⟨w.heap.size, 0, none⟩ = some (.int .i64 0) := ka 0
                  have e1 : w3.cell? ⟨w.heap.size, 1, none⟩ = some (.string ⟨#[]⟩) := ka 1
                  have e2 : w3.cell? ⟨w.heap.size, 2, none⟩ = some (.bool false) := ka 2
                  have e3 : w3.cell? ⟨w.heap.size, 3, none⟩ = some (.slice none 0 0) := ka 3
                  have e4 : w3.cell? ⟨w.heap.size, 4, none⟩ = some (.int .u64 0) := ka 4
                  have e5 : w3.cell? ⟨w.heap.size, 5, none⟩ = some (.int .i64 0) := ka 5
                  have e6 : w3.cell? ⟨w.heap.size, 6, none⟩ = some (.int .i64 0) := ka 6
                  have e7 : w3.cell? ⟨w.heap.size + 1, 0, none⟩ = some (.int .i64 0) := kb 0
                  have e8 : w3.cell? ⟨w.heap.size + 1, 1, none⟩ = some (.int .i64 0) := kb 1
                  have m0 := nb.g0
                  have m1 := nb.g1
                  have hge := nb.ge
                  have HTW : Hid (Tn No w w3) := hid (Tn.thenNo (((Tn.refl No w).alloc _).alloc _) nb.tw)
                  have HSA := hid sa7
                  have HSB := hid sb2
                  have HNW := hid nb.num
                  have hzA : w.heap.size < w3.heap.size := by omega
                  have hzB : w.heap.size + 1 < w3.heap.size := by omega
                  have gn1 : gx ≠ w.heap.size := by omega
                  have gn2 : gx ≠ w.heap.size + 1 := by omega
                  clear nb ka kb sa7 sb2 HNB hgx h3 HZO HP
                  go_region
                  all_goals go_wp2_with fail
                  change bodyPost _ _ _ _ _ (((put9 w3 w.heap.size (w.heap.size + 1) _ _ _ _ _ _ _ _ _)).drew); refine put9_all (fun W => bodyPost _ _ _ _ _ ((W).drew)) (by omega) HSA.out HSB.out ?_; rintro W ⟨q0, q1, q2, q3, q4, q5, q6, r0, r1⟩ hoth hsz htn; have HTN := hid (htn w HTW.out (by omega) (by omega)); clear htn; have hgA : w.heap.size < W.heap.size := (by omega); have hgB : w.heap.size + 1 < W.heap.size := (by omega); refine bodyPost_ret (v := .tuple #[tkV 4 (s.extract a e) ng (.slice sa l.length l.length) 0 0 0, .int .i64 (e : Int), msV 0 0]) (by simp [results, Tryz.results42, go_sem, tkV, noTk, msV, q0, q1, q2, q3, q4, q5, q6, r0, r1, hgA, hgB]) rfl ?_
                  exact ⟨HTN.out.drew, _, _, _, _, _, _, _, _, _, _, _, _, rfl, rfl, rfl, rfl, rfl, rfl, rfl, rfl, rfl, (HNW.out.blocks (w' := W.drew) (by show w3.heap.size ≤ W.heap.size; omega) (fun b hb _ => hoth b (by omega) (by omega))).mono (by omega)⟩
              · have hc : (j : Int) < ((e - 1 : Nat) : Int) := by omega
                have hc2 : j < e - 1 := by omega
                by_cases h48 : bt s j = 48
                · have HV' := hid (dval_step s j e hj2 h8 h48)
                  rw [h48] at hbj
                  clear h48 hlast
                  go_wp2_with fail
                  go_round
                  · exact ⟨j + 1, by omega, by omega, by simp, hid (HV'.out.symm.trans HV.out)⟩
                  · simp [intOf]; omega
                · have h48' : (bt s j == 48) = false := by simpa using h48
                  have HZ : j + 1 = e ∨ ¬ bt s j = 48 := .inr h48
                  have HZH := hid HZ
                  clear hlast HZ h48
                  have HP := hid (fun w => by have := rparse_seg s j e w hs hj2 h8 (fun k h1 h2 => HDG.out k (by omega) h2) HZH.out; rw [HV.out] at this; exact this)
                  clear HV HDG
                  by_cases hq : bt s a = 126
                  · have hda := HDA.out
                    rw [if_pos hq] at hda
                    have hzo := zof_neg s a e (by omega) h8 hq
                    rw [← hda] at hzo
                    have HZO := hid hzo
                    have hq' : (bt s a == 126) = true := by simpa using hq
                    clear hq hda hzo HDA
                    go_wp2_with (first
                      | (go_at_call 64; refine (HP.out _).mono ?_; rintro en w5 ⟨ng, sa, l, rfl, ho, hnr, hsl, hiv, hlk, hg⟩; have ht5 : Tn No (two0 w) w5 := Tn.ofgb hg; have HT5 := hid ht5; have HOW := hid ho; have HIV := hid hiv; clear ht5 ho hiv hnr hsl hlk hg)
                      | (go_at_call 65; refine (rneg_raw ng sa _ _ l _ (HOW.out.sl.grown (((Tn.refl No w5).alloc _).no))).mono ?_; rintro en w6 ⟨s6, a6, l6, rfl, ho6, hn6, hs6, hi6, hk6, hg6⟩; have HNB := hid (NB.neg HT5.out (Tn.ofgb hg6) ⟨a6, l6, rfl, (by simpa using ho6), hn6, hs6, (by rw [hi6, HIV.out, ← HZO.out])⟩); have hg6s := (Tn.ofgb hg6).size; obtain ⟨k6, f6, z6⟩ := one_block (Tn.ofgb hg6); have k60 := k6 0; have k61 := k6 1; simp at k60 k61; clear k6 ho6 hn6 hs6 hi6 hk6 hg6))
                    obtain ⟨w3, h3⟩ : ∃ w3, (w6.setCell ⟨w5.heap.size, 0, none⟩ (.bool s6)).setCell ⟨w5.heap.size, 1, none⟩ (.slice a6 l6.length l6.length) = w3 := ⟨_, rfl⟩
                    rw [h3] at HNB ⊢
                    obtain ⟨gx, hgx⟩ : ∃ g, w5.heap.size = g := ⟨_, rfl⟩
                    rw [hgx] at HNB ⊢
                    have nb := HNB.out
                    obtain ⟨⟨ka, fa⟩, ⟨kb, fb⟩, sa7, sb2, hz2⟩ := nb.facts
                    have e0 : w3.cell? ⟨w.heap.size, 0, none⟩ = some (.int .i64 0) := ka 0
                    have e1 : w3.cell? ⟨w.heap.size, 1, none⟩ = some (.string ⟨#[]⟩) := ka 1
                    have e2 : w3.cell? ⟨w.heap.size, 2, none⟩ = some (.bool false) := ka 2
                    have e3 : w3.cell? ⟨w.heap.size, 3, none⟩ = some (.slice none 0 0) := ka 3
                    have e4 : w3.cell? ⟨w.heap.size, 4, none⟩ = some (.int .u64 0) := ka 4
                    have e5 : w3.cell? ⟨w.heap.size, 5, none⟩ = some (.int .i64 0) := ka 5
                    have e6 : w3.cell? ⟨w.heap.size, 6, none⟩ = some (.int .i64 0) := ka 6
                    have e7 : w3.cell? ⟨w.heap.size + 1, 0, none⟩ = some (.int .i64 0) := kb 0
                    have e8 : w3.cell? ⟨w.heap.size + 1, 1, none⟩ = some (.int .i64 0) := kb 1
                    have m0 := nb.g0
                    have m1 := nb.g1
                    have hge := nb.ge
                    have HTW : Hid (Tn No w w3) := hid (Tn.thenNo (((Tn.refl No w).alloc _).alloc _) nb.tw)
                    have HSA := hid sa7
                    have HSB := hid sb2
                    have HNW := hid nb.num
                    have hzA : w.heap.size < w3.heap.size := by omega
                    have hzB : w.heap.size + 1 < w3.heap.size := by omega
                    have gn1 : gx ≠ w.heap.size := by omega
                    have gn2 : gx ≠ w.heap.size + 1 := by omega
                    clear nb ka kb sa7 sb2 HNB hgx h3 HZO HP HT5 HOW HIV k60 k61 hg6s z6 f6
                    go_region
                    all_goals go_wp2_with fail
                    change bodyPost _ _ _ _ _ (((put9 w3 w.heap.size (w.heap.size + 1) _ _ _ _ _ _ _ _ _)).drew); refine put9_all (fun W => bodyPost _ _ _ _ _ ((W).drew)) (by omega) HSA.out HSB.out ?_; rintro W ⟨q0, q1, q2, q3, q4, q5, q6, r0, r1⟩ hoth hsz htn; have HTN := hid (htn w HTW.out (by omega) (by omega)); clear htn; have hgA : w.heap.size < W.heap.size := (by omega); have hgB : w.heap.size + 1 < W.heap.size := (by omega); refine bodyPost_ret (v := .tuple #[tkV 4 (s.extract a e) s6 (.slice a6 l6.length l6.length) 0 0 0, .int .i64 (e : Int), msV 0 0]) (by simp [results, Tryz.results42, go_sem, tkV, noTk, msV, q0, q1, q2, q3, q4, q5, q6, r0, r1, hgA, hgB]) rfl ?_
                    exact ⟨HTN.out.drew, _, _, _, _, _, _, _, _, _, _, _, _, rfl, rfl, rfl, rfl, rfl, rfl, rfl, rfl, rfl, (HNW.out.blocks (w' := W.drew) (by show w3.heap.size ≤ W.heap.size; omega) (fun b hb _ => hoth b (by omega) (by omega))).mono (by omega)⟩
                  · have hda := HDA.out
                    rw [if_neg hq] at hda
                    have hzo := zof_pos s a e (by omega) h8 hq
                    rw [show s.extract a e = s.extract d e by rw [hda]] at hzo
                    have hzo' : zof (s.extract a e).data.toList = (dval (s.extract d e).data.toList : Int) := by rw [← hzo, hda]
                    have HZO := hid hzo'
                    have hq' : (bt s a == 126) = false := by simpa using hq
                    clear hq hda hzo hzo' HDA
                    go_wp2_with (first
                      | (go_at_call 64; refine (HP.out _).mono ?_; rintro en w5 ⟨ng, sa, l, rfl, ho, hnr, hsl, hiv, hlk, hg⟩; have ht5 : Tn No (two0 w) w5 := Tn.ofgb hg; have HNB := hid (NB.pos ht5 ⟨sa, l, rfl, ho, hnr, hsl, (by rw [hiv, ← HZO.out])⟩); clear ht5 ho hiv hnr hsl hlk hg)
                      | fail)
                    obtain ⟨w3, h3⟩ : ∃ w3, w5.alloc (.cells #[.bool ng, .slice sa l.length l.length] 35) = w3 := ⟨_, rfl⟩
                    rw [h3] at HNB ⊢
                    obtain ⟨gx, hgx⟩ : ∃ g, w5.heap.size = g := ⟨_, rfl⟩
                    rw [hgx] at HNB ⊢
                    have nb := HNB.out
                    obtain ⟨⟨ka, fa⟩, ⟨kb, fb⟩, sa7, sb2, hz2⟩ := nb.facts
                    have e0 : w3.cell? ⟨w.heap.size, 0, none⟩ = some (.int .i64 0) := ka 0
                    have e1 : w3.cell? ⟨w.heap.size, 1, none⟩ = some (.string ⟨#[]⟩) := ka 1
                    have e2 : w3.cell? ⟨w.heap.size, 2, none⟩ = some (.bool false) := ka 2
                    have e3 : w3.cell? ⟨w.heap.size, 3, none⟩ = some (.slice none 0 0) := ka 3
                    have e4 : w3.cell? ⟨w.heap.size, 4, none⟩ = some (.int .u64 0) := ka 4
                    have e5 : w3.cell? ⟨w.heap.size, 5, none⟩ = some (.int .i64 0) := ka 5
                    have e6 : w3.cell? ⟨w.heap.size, 6, none⟩ = some (.int .i64 0) := ka 6
                    have e7 : w3.cell? ⟨w.heap.size + 1, 0, none⟩ = some (.int .i64 0) := kb 0
                    have e8 : w3.cell? ⟨w.heap.size + 1, 1, none⟩ = some (.int .i64 0) := kb 1
                    have m0 := nb.g0
                    have m1 := nb.g1
                    have hge := nb.ge
                    have HTW : Hid (Tn No w w3) := hid (Tn.thenNo (((Tn.refl No w).alloc _).alloc _) nb.tw)
                    have HSA := hid sa7
                    have HSB := hid sb2
                    have HNW := hid nb.num
                    have hzA : w.heap.size < w3.heap.size := by omega
                    have hzB : w.heap.size + 1 < w3.heap.size := by omega
                    have gn1 : gx ≠ w.heap.size := by omega
                    have gn2 : gx ≠ w.heap.size + 1 := by omega
                    clear nb ka kb sa7 sb2 HNB hgx h3 HZO HP
                    go_region
                    all_goals go_wp2_with fail
                    change bodyPost _ _ _ _ _ (((put9 w3 w.heap.size (w.heap.size + 1) _ _ _ _ _ _ _ _ _)).drew); refine put9_all (fun W => bodyPost _ _ _ _ _ ((W).drew)) (by omega) HSA.out HSB.out ?_; rintro W ⟨q0, q1, q2, q3, q4, q5, q6, r0, r1⟩ hoth hsz htn; have HTN := hid (htn w HTW.out (by omega) (by omega)); clear htn; have hgA : w.heap.size < W.heap.size := (by omega); have hgB : w.heap.size + 1 < W.heap.size := (by omega); refine bodyPost_ret (v := .tuple #[tkV 4 (s.extract a e) ng (.slice sa l.length l.length) 0 0 0, .int .i64 (e : Int), msV 0 0]) (by simp [results, Tryz.results42, go_sem, tkV, noTk, msV, q0, q1, q2, q3, q4, q5, q6, r0, r1, hgA, hgB]) rfl ?_
                    exact ⟨HTN.out.drew, _, _, _, _, _, _, _, _, _, _, _, _, rfl, rfl, rfl, rfl, rfl, rfl, rfl, rfl, rfl, (HNW.out.blocks (w' := W.drew) (by show w3.heap.size ≤ W.heap.size; omega) (fun b hb _ => hoth b (by omega) (by omega))).mono (by omega)⟩
end Go.Proofs.YtcmhfeeocehlaaaGreatDoor
