/-
  The reference's lexer: numbers.
-/
import Derived.Test.YtcmhfeeocehlaaaGreatDoorRLexB
import Derived.Test.YtcmhfeeocehlaaaGreatDoorPF1
import Derived.Deep.DeepCutAuto
import Derived.Deep.CutBlock
import Derived.Deep.CutRange
namespace Go.Proofs.YtcmhfeeocehlaaaGreatDoor
set_option linter.unusedSimpArgs false
set_option linter.unusedVariables false
open Go.RowKit Go.PlainAid
attribute [local go_sem ↓] Go.wp_at_zero Go.wp_at_succ
attribute [local go_sem] fbits_run

/-- ParseFloat answers v of the text -/
def PFW (w0 : World) (x : ByteArray) (v : Nat) : Prop := ∀ w, Tn No w0 w → Calls Tryz.prog 66 #[.string x, .int .i64 64] w fun e w' => ∃ er, e = .returned (.tuple #[.float .f64 v, er]) ∧ Tn No w w'

set_option maxHeartbeats 4000000 in
set_option maxRecDepth 100000 in
theorem rnumber_real (rb : ByteArray → Nat) (s : ByteArray) (a : Nat) (w : World) (hs : s.size ≤ 65536) (hn : isNum s a = true) (hew : ¬ numE s a = whole s a) (hpf : ¬ 100 < numE s a - a → PFW w (ngT (s.extract a (numE s a))) (rb (s.extract a (numE s a)))) :
    Calls Tryz.prog 42 #[.string s, .int .i64 (a : Int)] w (WPost w (numW (fun x => (rb x : Int)) s a).z) := by
  obtain ⟨h1, h2, h3, h4⟩ := nuD_lt hn
  obtain ⟨h5, h6⟩ := whole_lt hn
  obtain ⟨h7, h8⟩ := numE_ge hn
  have hfr := frac_ge s (whole s a) h6
  have hxp := expo_ge s (frac s (whole s a)) hfr.2
  have hal : a < s.size := by omega
  have hb := get_bt s a hal
  have HD1 := hid (fun w => rdigits_raw s (nuD s a) w hs (by omega))
  have hwh : whole s a = run isD s (nuD s a) := rfl
  rw [← hwh] at HD1
  have hda : nuD s a = if bt s a = 126 then a + 1 else a := rfl
  have hfa : frac s (whole s a) = if bt s (whole s a) = 46 ∧ isD (bt s (whole s a + 1)) = true then run isD s (whole s a + 1) else whole s a := rfl
  have hea : numE s a = if bt s (frac s (whole s a)) = 101 ∧ isD (bt s (exD s (frac s (whole s a)))) = true then run isD s (exD s (frac s (whole s a))) else frac s (whole s a) := rfl
  obtain ⟨O, hO⟩ : ∃ O, (numW (fun x => (rb x : Int)) s a).z = O := ⟨_, rfl⟩
  rw [hO]
  unfold numW at hO
  have HDG := hid (fun k => run_all (p := isD) (s := s) (a := nuD s a) (k := k))
  rw [← hwh] at HDG
  clear hwh hn
  obtain ⟨e, he⟩ : ∃ e, numE s a = e := ⟨_, rfl⟩
  obtain ⟨f, hf⟩ : ∃ f, frac s (whole s a) = f := ⟨_, rfl⟩
  obtain ⟨wh, hwh⟩ : ∃ wh, whole s a = wh := ⟨_, rfl⟩
  obtain ⟨d, hd⟩ : ∃ d, nuD s a = d := ⟨_, rfl⟩
  rw [hf] at hfa hfr hxp hea
  rw [he] at hea h7 h8 hO hpf hew
  rw [hwh] at hfa hfr h5 h6 h7 HD1 hO HDG hew
  rw [hd] at h1 h2 h3 h4 h5 HD1 hda HDG
  clear he hf hwh hd
  have HO := hid hO
  have HPF := hid hpf
  have HEW := hid hew
  have HDA := hid hda
  have HFA := hid hfa
  have HEA := hid hea
  have hxe : f ≤ e := by
    rw [hea]
    split
    · have hx1 : f + 1 ≤ exD s f := by unfold exD; split <;> omega
      have := run_ge isD s (exD s f); omega
    · exact Nat.le_refl _
  obtain ⟨hf1, hf2⟩ := hfr
  have HAT := hid (fun k w => rat_raw s k w)
  clear hda hfa hea hxp hO h2 hpf hew
  go_enter Tryz.func42, Tryz.ntmps42
  go_upto_if 21 with fail
  go_cut [7] (fun v7 wx => v7 = .int .i64 (d : Int) ∧ wx = (w.alloc (.cells #[.int .i64 0, .string ⟨#[]⟩, .bool false, .slice none 0 0, .int .u64 0, .int .i64 0, .int .i64 0] 39)).alloc (.cells #[.int .i64 0, .int .i64 0] 26))
  case first =>
    have hda := HDA.out
    by_cases hq : bt s a = 126
    · rw [if_pos hq] at hda
      have hq' : (bt s a == 126) = true := by simpa using hq
      clear hq
      go_wp2_with fail
      go_meet
      exact ⟨by rw [hda]; simp, rfl⟩
    · rw [if_neg hq] at hda
      have hq' : (bt s a == 126) = false := by simpa using hq
      clear hq
      go_wp2_with fail
      go_meet
      exact ⟨by rw [hda], rfl⟩
  case rest =>
    obtain ⟨rfl, rfl⟩ := hcut
    go_upto_region 7 with (first
      | (go_at_call 63; refine (HD1.out _).mono ?_; rintro en w' ⟨rfl, rfl⟩)
      | fail)
    have HA1 := hid (fun w => HAT.out wh w)
    have HA2 := hid (fun w => HAT.out (wh + 1) w)
    have HG2 := hid (fun w => rdigit_raw (bt s (wh + 1)) w (bt_nonneg s _) (bt_le s _))
    rw [cast1] at HA2
    go_cut [39] (fun c wx => c = .bool (bt s wh == 46 && isD (bt s (wh + 1))) ∧ wx = (w.alloc (.cells #[.int .i64 0, .string ⟨#[]⟩, .bool false, .slice none 0 0, .int .u64 0, .int .i64 0, .int .i64 0] 39)).alloc (.cells #[.int .i64 0, .int .i64 0] 26))
    case first =>
      by_cases hq : bt s wh = 46
      · rw [hq] at HA1
        go_wp2_with (first
          | (go_at_call 38; first | (refine (HA1.out _).mono ?_; rintro en w' ⟨rfl, rfl⟩; clear HA1) | (refine (HA2.out _).mono ?_; rintro en w' ⟨rfl, rfl⟩))
          | (go_at_call 41; refine (HG2.out _).mono ?_; rintro en w' ⟨rfl, rfl⟩))
        go_meet
        exact ⟨by rw [hq]; rfl, rfl⟩
      · have hq' : (bt s wh == 46) = false := by simpa using hq
        clear hq
        go_wp2_with (first
          | (go_at_call 38; refine (HA1.out _).mono ?_; rintro en w' ⟨rfl, rfl⟩))
        go_meet
        exact ⟨by rw [hq']; rfl, rfl⟩
    case rest =>
      obtain ⟨rfl, rfl⟩ := hcut
      clear HA1 HA2 HG2
      go_upto_if 39 with fail
      go_cut [7] (fun v7 wx => v7 = .int .i64 (f : Int) ∧ wx = (w.alloc (.cells #[.int .i64 0, .string ⟨#[]⟩, .bool false, .slice none 0 0, .int .u64 0, .int .i64 0, .int .i64 0] 39)).alloc (.cells #[.int .i64 0, .int .i64 0] 26))
      case first =>
        have hfa := HFA.out
        cases hB : (bt s wh == 46 && isD (bt s (wh + 1))) with
        | true =>
          have hB' : bt s wh = 46 ∧ isD (bt s (wh + 1)) = true := by simpa using hB
          rw [if_pos hB'] at hfa
          have hlt := lt_of_p isD_0 hB'.2
          have HD2 := hid (fun w => rdigits_raw s (wh + 1) w hs (by omega))
          rw [cast1, ← hfa] at HD2
          clear hfa hB'
          go_wp2_with (go_at_call 63; refine (HD2.out _).mono ?_; rintro en w' ⟨rfl, rfl⟩)
          go_meet
          exact ⟨rfl, rfl⟩
        | false =>
          have hB' : ¬ (bt s wh = 46 ∧ isD (bt s (wh + 1)) = true) := by simpa using hB
          rw [if_neg hB'] at hfa
          clear hB'
          go_wp2_with fail
          go_meet
          exact ⟨by rw [hfa], rfl⟩
      case rest =>
        obtain ⟨rfl, rfl⟩ := hcut
        have HA1 := hid (fun w => HAT.out f w)
        go_upto_if 47 with (first
          | (go_at_call 38; refine (HA1.out _).mono ?_; rintro en w' ⟨rfl, rfl⟩)
          | fail)
        go_cut [7, 10] (fun v7 _ wx => v7 = .int .i64 (e : Int) ∧ wx = (w.alloc (.cells #[.int .i64 0, .string ⟨#[]⟩, .bool false, .slice none 0 0, .int .u64 0, .int .i64 0, .int .i64 0] 39)).alloc (.cells #[.int .i64 0, .int .i64 0] 26))
        case first =>
          have hea := HEA.out
          clear HA1
          by_cases hq : bt s f = 101
          · have hq' : (bt s f == 101) = true := by simpa using hq
            have hlt := lt_of_bt (s := s) (a := f) (by omega)
            have HA2 := hid (fun w => HAT.out (f + 1) w)
            rw [cast1] at HA2
            by_cases ht : bt s (f + 1) = 126
            · have hx : exD s f = f + 2 := by unfold exD; rw [if_pos ht]
              rw [hx] at hea
              rw [ht] at HA2
              have hlt2 := lt_of_bt (s := s) (a := f + 1) (by omega)
              have hcast2 : ((f + 2 : Nat) : Int) = (f : Int) + 1 + 1 := by omega
              have HA3 := hid (fun w => HAT.out (f + 2) w)
              rw [hcast2] at HA3
              have HG3 := hid (fun w => rdigit_raw (bt s (f + 2)) w (bt_nonneg s _) (bt_le s _))
              have HD3 := hid (fun w => rdigits_raw s (f + 2) w hs (by omega))
              rw [hcast2] at HD3
              cases hD : isD (bt s (f + 2)) with
              | true =>
                rw [hD] at HG3
                rw [if_pos ⟨hq, hD⟩] at hea
                rw [← hea] at HD3
                clear hea hq ht hx hD hcast2
                go_wp2_with (first
                  | (go_at_call 38; first | (refine (HA2.out _).mono ?_; rintro en w' ⟨rfl, rfl⟩; clear HA2) | (refine (HA3.out _).mono ?_; rintro en w' ⟨rfl, rfl⟩))
                  | (go_at_call 41; refine (HG3.out _).mono ?_; rintro en w' ⟨rfl, rfl⟩)
                  | (go_at_call 63; refine (HD3.out _).mono ?_; rintro en w' ⟨rfl, rfl⟩))
                go_meet
                exact ⟨rfl, rfl⟩
              | false =>
                rw [hD] at HG3
                rw [if_neg (fun h => by rw [hD] at h; cases h.2)] at hea
                clear hq ht hx hD HD3 hcast2
                go_wp2_with (first
                  | (go_at_call 38; first | (refine (HA2.out _).mono ?_; rintro en w' ⟨rfl, rfl⟩; clear HA2) | (refine (HA3.out _).mono ?_; rintro en w' ⟨rfl, rfl⟩))
                  | (go_at_call 41; refine (HG3.out _).mono ?_; rintro en w' ⟨rfl, rfl⟩))
                go_meet
                exact ⟨by rw [hea], rfl⟩
            · have hx : exD s f = f + 1 := by unfold exD; rw [if_neg ht]
              rw [hx] at hea
              have ht' : (bt s (f + 1) == 126) = false := by simpa using ht
              have HG3 := hid (fun w => rdigit_raw (bt s (f + 1)) w (bt_nonneg s _) (bt_le s _))
              have HD3 := hid (fun w => rdigits_raw s (f + 1) w hs (by omega))
              rw [cast1] at HD3
              cases hD : isD (bt s (f + 1)) with
              | true =>
                rw [hD] at HG3
                rw [if_pos ⟨hq, hD⟩] at hea
                rw [← hea] at HD3
                clear hea hq ht hx hD
                go_wp2_with (first
                  | (go_at_call 38; refine (HA2.out _).mono ?_; rintro en w' ⟨rfl, rfl⟩)
                  | (go_at_call 41; refine (HG3.out _).mono ?_; rintro en w' ⟨rfl, rfl⟩)
                  | (go_at_call 63; refine (HD3.out _).mono ?_; rintro en w' ⟨rfl, rfl⟩))
                go_meet
                exact ⟨rfl, rfl⟩
              | false =>
                rw [hD] at HG3
                rw [if_neg (fun h => by rw [hD] at h; cases h.2)] at hea
                clear hq ht hx hD HD3
                go_wp2_with (first
                  | (go_at_call 38; refine (HA2.out _).mono ?_; rintro en w' ⟨rfl, rfl⟩)
                  | (go_at_call 41; refine (HG3.out _).mono ?_; rintro en w' ⟨rfl, rfl⟩))
                go_meet
                exact ⟨by rw [hea], rfl⟩
          · rw [if_neg (fun h => hq h.1)] at hea
            have hq' : (bt s f == 101) = false := by simpa using hq
            clear hq
            go_wp2_with fail
            go_meet
            exact ⟨by rw [hea], rfl⟩
        case rest =>
          obtain ⟨rfl, rfl⟩ := hcut
          clear HA1 HAT HEA HFA
          have hO := HO.out
          have hwx : IntKind.i64.wrap ((e : Int) - (a : Int)) = ((e - a : Nat) : Int) := by rw [IntKind.wrap_i64]; omega
          have hew := HEW.out
          clear HEW
          rw [if_neg hew] at hO
          have hew' : ((e : Int) == (wh : Int)) = false := by rw [beq_eq_false_iff_ne]; omega
          by_cases hl : 100 < e - a
          · rw [if_pos hl] at hO
            subst hO
            have hlI : (100 : Int) < ((e - a : Nat) : Int) := by omega
            clear hl HO hew
            have HC := hid (fun w => rbad_raw 32 (a : Int) w)
            clear HPF HDG HD1 HDA
            go_wp2_with (go_at_call 16; refine (HC.out _).mono ?_; rintro en w1 ⟨rfl, ht⟩; simp only [msV]; obtain ⟨⟨k1, f1⟩, ⟨k2, f2⟩, s1, s2, hz⟩ := two_blocks ht; have HS1 := hid (fun i (hi : i < 7) => s1 i hi); have HS2 := hid (fun i (hi : i < 2) => s2 i hi); clear s1 s2; have k10 := k1 0; have k11 := k1 1; have k12 := k1 2; have k13 := k1 3; have k14 := k1 4; have k15 := k1 5; have k16 := k1 6; have k20 := k2 0; have k21 := k2 1; simp at k10 k11 k12 k13 k14 k15 k16 k20 k21; clear k1 k2; have HT := hid ht; clear ht; have hzA := Nat.lt_of_lt_of_le (Nat.lt_add_of_pos_right (by decide : 0 < 2)) hz; have hzB := Nat.lt_of_lt_of_le (Nat.add_lt_add_left (by decide : 1 < 2) _) hz)
            change bodyPost _ _ _ _ _ (put9 w1 w.heap.size (w.heap.size + 1) _ _ _ _ _ _ _ _ _)
            refine put9_all (bodyPost _ _ _ _ _) (by omega) HS1.out HS2.out ?_; rintro W ⟨q0, q1, q2, q3, q4, q5, q6, r0, r1⟩ hoth hsz htn; have HTN := hid (htn w (Tn.thenNo (((Tn.refl No w).alloc _).alloc _) HT.out) (by omega) (by omega)); clear htn
            refine bodyPost_ret (v := .tuple #[noTk, .int .i64 0, msV 32 (a : Int)]) (by simp [results, Tryz.results42, go_sem, noTk, tkV, msV, q0, q1, q2, q3, q4, q5, q6, r0, r1]) rfl ?_
            exact ⟨HTN.out, _, _, _, _, _, _, _, _, _, _, _, _, rfl, rfl, rfl, rfl, rfl, rfl, rfl, rfl, rfl, rfl, rfl⟩
          · rw [if_neg hl] at hO
            have hlI : decide ((100 : Int) < ((e - a : Nat) : Int)) = false := by rw [decide_eq_false_iff_not]; omega
            have hlN : e - a ≤ 100 := by omega
            have hpf' := HPF.out hl
            obtain ⟨v, hv⟩ : ∃ v, rb (s.extract a e) = v := ⟨_, rfl⟩
            rw [hv] at hpf' hO
            have HPF' := hid hpf'
            subst hO
            clear hl HO hew HPF HD1 HDG HDA hv hpf'
            go_wp2_with fail
            go_loop [13, 14] (fun t i => ∃ j : Nat, a ≤ j ∧ j ≤ e ∧ t = .string (ngT (s.extract a j)) ∧ i = .int .i64 (j : Int)) (fun _ i => e - (intOf i).toNat)
            case atStart => exact ⟨a, Nat.le_refl _, by omega, by rw [ng_nil], rfl⟩
            case round =>
              obtain ⟨j, hj1, hj2, rfl, rfl⟩ := hrel
              by_cases hje : j = e
              · have hje2 := hje.symm
                subst hje2
                go_wp2_with (go_at_call 66; refine (HPF'.out _ (by repeat (first | exact Tn.refl _ _ | apply Tn.drew | apply Tn.drewN | apply Tn.alloc | (refine Tn.then ?_ (by assumption)) | (refine Tn.thenNo ?_ (by assumption))))).mono ?_; rintro en w5 ⟨er, rfl, t5⟩; have HT5 := hid t5; clear t5)
                obtain ⟨⟨ka, fa⟩, ⟨kb, fb⟩, sa7, sb2, hz2⟩ := two_blocks HT5.out
                have e0 : w5.cell? ⟨w.heap.size, 0, none⟩ = some (.int .i64 0) := ka 0
                have e1 : w5.cell? ⟨w.heap.size, 1, none⟩ = some (.string ⟨#[]⟩) := ka 1
                have e2 : w5.cell? ⟨w.heap.size, 2, none⟩ = some (.bool false) := ka 2
                have e3 : w5.cell? ⟨w.heap.size, 3, none⟩ = some (.slice none 0 0) := ka 3
                have e4 : w5.cell? ⟨w.heap.size, 4, none⟩ = some (.int .u64 0) := ka 4
                have e5 : w5.cell? ⟨w.heap.size, 5, none⟩ = some (.int .i64 0) := ka 5
                have e6 : w5.cell? ⟨w.heap.size, 6, none⟩ = some (.int .i64 0) := ka 6
                have e7 : w5.cell? ⟨w.heap.size + 1, 0, none⟩ = some (.int .i64 0) := kb 0
                have e8 : w5.cell? ⟨w.heap.size + 1, 1, none⟩ = some (.int .i64 0) := kb 1
                have HTW : Hid (Tn No w w5) := hid (Tn.thenNo (((Tn.refl No w).alloc _).alloc _) HT5.out)
                have HSA : Hid (∀ i, i < 7 → (w5.cell? ⟨w.heap.size, i, none⟩).isSome = true) := hid sa7
                have HSB : Hid (∀ i, i < 2 → (w5.cell? ⟨w.heap.size + 1, i, none⟩).isSome = true) := hid sb2
                have hzA : w.heap.size < w5.heap.size := by omega
                have hzB : w.heap.size + 1 < w5.heap.size := by omega
                clear ka kb sa7 sb2 HT5
                go_region
                all_goals go_wp2_with fail
                change bodyPost _ _ _ _ _ (((put9 w5 w.heap.size (w.heap.size + 1) _ _ _ _ _ _ _ _ _)).drew); refine put9_all (fun W => bodyPost _ _ _ _ _ ((W).drew)) (by omega) HSA.out HSB.out ?_; rintro W ⟨q0, q1, q2, q3, q4, q5, q6, r0, r1⟩ hoth hsz htn; have HTN := hid (htn w HTW.out (by omega) (by omega)); clear htn; have hgA : w.heap.size < W.heap.size := (by omega); have hgB : w.heap.size + 1 < W.heap.size := (by omega); refine bodyPost_ret (v := .tuple #[tkV 5 (s.extract a e) false (.slice none 0 0) (v : Int) 0 0, .int .i64 (e : Int), msV 0 0]) (by simp [results, Tryz.results42, go_sem, tkV, noTk, msV, q0, q1, q2, q3, q4, q5, q6, r0, r1, hgA, hgB]) rfl ?_
                exact ⟨HTN.out.drew, _, _, _, _, _, _, _, _, _, _, _, _, rfl, rfl, rfl, rfl, rfl, rfl, rfl, rfl, rfl, NumAt.nil _ _⟩
              · have hjs : j < s.size := by omega
                have hbj := get_bt s j hjs
                have hjI : (j : Int) < (e : Int) := by omega
                have hjsI : (j : Int) < (s.size : Int) := by omega
                have hTs : (ngT (s.extract a j)).size ≤ 100 := by rw [ng_size, ext_size2 s a j (by omega)]; omega
                have hm := ng_minus s a j hj1 hjs
                have ho := ng_other s a j hj1 hjs
                have hx1 : (s.extract j (j + 1)).size = 1 := by rw [ext_size2 s j (j + 1) (by omega)]; omega
                obtain ⟨T, hT⟩ : ∃ T, ngT (s.extract a j) = T := ⟨_, rfl⟩
                rw [hT] at hTs hm ho ⊢
                have s1 : T.size + (⟨#[45]⟩ : ByteArray).size ≤ 9223372036854775807 := by show T.size + 1 ≤ _; omega
                have s2 : T.size + (s.extract j (j + 1)).size ≤ 9223372036854775807 := by omega
                by_cases hq : bt s j = 126
                · have HM := hid (hm hq)
                  rw [hq] at hbj
                  clear hq hm ho hT hTs hx1 s2
                  go_wp2_with fail
                  go_round
                  · exact ⟨j + 1, by omega, by omega, by rw [HM.out], by simp⟩
                  · simp [intOf]; omega
                · have HM := hid (ho hq)
                  have hq' : (bt s j == 126) = false := by simpa using hq
                  clear hq hm ho hT hTs hx1 s1
                  go_wp2_with fail
                  go_round
                  · exact ⟨j + 1, by omega, by omega, by rw [HM.out], by simp⟩
                  · simp [intOf]; omega
end Go.Proofs.YtcmhfeeocehlaaaGreatDoor
