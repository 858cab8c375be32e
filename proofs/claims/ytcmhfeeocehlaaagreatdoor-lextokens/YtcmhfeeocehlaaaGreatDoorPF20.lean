/-
  strconv.ParseFloat: floatBits between its edges.
-/
import Derived.Test.YtcmhfeeocehlaaaGreatDoorPFC
import Derived.Deep.CutRange
import Derived.Deep.DeepCutAuto
namespace Go.Proofs.YtcmhfeeocehlaaaGreatDoor
set_option linter.unusedSimpArgs false
set_option linter.unusedVariables false
open Go.RowKit Go.PlainAid
attribute [local go_sem ↓] Go.wp_at_zero Go.wp_at_succ

theorem numD_ok {pt : Nat → Nat} (hpt : ∀ i, i < 9 → 1 ≤ pt i ∧ pt i ≤ 60) (x : Int) : 1 ≤ numD pt x ∧ numD pt x ≤ 60 := by
  unfold numD; split
  · omega
  · exact hpt _ (by omega)
theorem numU_ok {pt : Nat → Nat} (hpt : ∀ i, i < 9 → 1 ≤ pt i ∧ pt i ≤ 60) (x : Int) : 1 ≤ numU pt x ∧ numU pt x ≤ 60 := by
  unfold numU; split
  · omega
  · exact hpt _ (by omega)

theorem G13.no {ch : Nat → Nat × ByteArray} {w u : World} {g : Nat × Nat} (h : G13 ch w g) (t : Tn No w u) : G13 ch u g := by
  have l13 := World.block_lt_of_cell? _ _ h.var
  have lg := World.block_lt_of_cell? _ _ (h.row 0 (by omega)).1
  exact ⟨(t.cell l13 (fun e => e)).trans h.var, fun k hk => ⟨(t.cell lg (fun e => e)).trans (h.row k hk).1, (t.cell lg (fun e => e)).trans (h.row k hk).2⟩⟩
/-- what is read at the end: overflow, or bits -/
def fbR (ng : Bool) (ex mt : Int) : Int × Bool :=
  if 2047 ≤ ex + 1023 then (fbT ng 0 2047, true)
  else if mt = 9007199254740992 then
    (if 2047 ≤ ex + 1 + 1023 then (fbT ng 0 2047, true) else (fbT ng 4503599627370496 (ex + 1 + 1023), false))
  else if bits .and .u64 mt 4503599627370496 = 0 then (fbT ng mt 0, false) else (fbT ng mt (ex + 1023), false)

set_option maxHeartbeats 16000000 in
set_option maxRecDepth 100000 in
theorem fb_mid (ch : Nat → Nat × ByteArray) (hch : ChOk ch) (pt : Nat → Nat) (hpt : ∀ i, i < 9 → 1 ≤ pt i ∧ pt i ≤ 60) (S : DS) (ok : S.Ok) (hd1 : S.dp ≤ 310) (hd2 : -330 ≤ S.dp) :
    ∃ v o, ∀ (b : Nat) (g p : Nat × Nat) (w : World), DecAt w b S → Gb ch pt w b g p →
      Calls Tryz.prog 124 #[.pointer (some ⟨b, 0, none⟩), .pointer (some ⟨6, 0, none⟩)] w fun e w' => e = .returned (.tuple #[.int .u64 v, .bool o]) ∧ Tn (At1 b) w w' := by
  have hff := ok.first
  have hfg := (ok.dig 0 ok.pos).2
  obtain ⟨I, f, e, i1, i2, i3, i4, i5, i6, i7, i8, i9⟩ := seqD (numD pt) (numD_ok hpt) 4000 S ok hd1 (by omega) (by omega)
  have hfi := i4.first
  obtain ⟨J, f', e', j1, j2, j3, j4, j5, j5b, j6, j7, j8, j9⟩ := seqU ch hch (numU pt) (numU_ok hpt) 5000 (f I) i4 (by omega) i6 (by omega)
  obtain ⟨x1, hx1⟩ : ∃ x1, e I = x1 := ⟨_, rfl⟩
  obtain ⟨x2, hx2⟩ : ∃ x2, e' J = x2 := ⟨_, rfl⟩
  have b1 := i8 I (Nat.le_refl _)
  have b2 := j8 J (Nat.le_refl _)
  rw [hx1] at b1
  rw [hx2] at b2
  obtain ⟨T1, ex1, t1, t2, t3, t3b, t4, t5⟩ : ∃ (T1 : DS) (ex1 : Int), T1.Ok ∧ T1.neg = S.neg ∧ (-500000 ≤ T1.dp ∧ T1.dp ≤ 20) ∧ (-1022 ≤ ex1 ∧ ex1 ≤ 1000000) ∧ (x1 - x2 - 1 < -1022 → ex1 = -1022 ∧ ∀ (b : Nat) (w : World), DecAt w b (f' J) →
      Calls Tryz.prog 150 #[.pointer (some ⟨b, 0, none⟩), .int .i64 (-(-1022 - (x1 - x2 - 1)))] w fun e w' => e = .returned (.tuple #[]) ∧ Tn (At1 b) w w' ∧ DecAt w' b T1) ∧ (¬ x1 - x2 - 1 < -1022 → ex1 = x1 - x2 - 1 ∧ T1 = f' J) := by
    by_cases hc : x1 - x2 - 1 < -1022
    · obtain ⟨n, hn⟩ : ∃ n : Nat, -1022 - (x1 - x2 - 1) = (n : Int) := ⟨(-1022 - (x1 - x2 - 1)).toNat, by omega⟩
      obtain ⟨T1, q1, q2, q3, q4, q5⟩ := shiftDown_ex (f' J) j4 n (by omega) (by omega) (by omega)
      refine ⟨T1, -1022, q1, q2.trans (j7.trans i7), by omega, by omega, fun _ => ⟨rfl, fun b w h => ?_⟩, fun h => absurd hc h⟩
      rw [hn]; exact q5 b w h
    · exact ⟨f' J, x1 - x2 - 1, j4, j7.trans i7, by omega, by omega, fun h => absurd h hc, fun _ => ⟨rfl, rfl⟩⟩
  obtain ⟨T2, u1, u2, u3, u4, u5⟩ := shiftUp_ex ch hch T1 t1 53 (by omega) (by omega) (by omega)
  obtain ⟨mt, hmt⟩ := rint_ex T2 u1 (by omega)
  refine ⟨(fbR S.neg ex1 mt).1, (fbR S.neg ex1 mt).2, fun b g p w h hg => ?_⟩
  have k1 := h.nd
  have k2 := h.dp
  have hz : ¬ (S.nd : Int) = 0 := by have := ok.pos; omega
  have hzb : ((S.nd : Int) == 0) = false := by simpa using hz
  have HH := hid h
  have HG := hid hg
  have HI2 := hid i2
  have HI3 := hid i3
  have HI8 := hid i8
  have HI9 := hid i9
  have HJ2 := hid j2
  have HJ3 := hid j3
  have HJ5 := hid j5
  have HJ8 := hid j8
  have HJ9 := hid j9
  have HX1 := hid hx1
  have HX2 := hid hx2
  have HT4 := hid t4
  have HT5 := hid t5
  have HU5 := hid u5
  have HMT := hid hmt
  have HI5 := hid i5
  have HNG := hid (u2.trans t2)
  have HT2 := hid t2
  clear h hg i2 i3 i8 i9 j2 j3 j5 j8 j9 hx1 hx2 t4 t5 u5 hmt u4 hz i5 i6 i7 j7 t2 u2
  go_enter Tryz.func124, Tryz.ntmps124
  go_wp2_with fail
  refine wp_scope_fwd 0 1 rfl rfl ?_
  go_wp2_with fail
  clear k1 k2
  go_loopw [6] (fun v6 wr => ∃ i : Nat, i ≤ I ∧ v6 = .int .i64 (e i) ∧ Tn (At1 b) w wr ∧ DecAt wr b (f i)) (fun v6 _ => (300000 - intOf v6).toNat)
  case atStart => exact ⟨0, by omega, by rw [HI3.out], Tn.refl _ _, by rw [HI2.out]; exact HH.out⟩
  case round =>
    obtain ⟨i, hi, rfl, ht, hd⟩ := hrel
    have HT := hid ht
    have HD := hid hd
    have hgk := HG.out.keep ht
    have HGK := hid hgk
    have k2 := hd.dp
    have g8v := hgk.g8.var
    obtain ⟨ei, hei⟩ : ∃ ei, e i = ei := ⟨_, rfl⟩
    have be := HI8.out i hi
    rw [hei] at be ⊢
    obtain ⟨be1, be2⟩ := be
    by_cases hlt : i < I
    · obtain ⟨r1, r2, r3, r4, r5⟩ := HI9.out i hlt
      obtain ⟨d, hdd⟩ : ∃ d, (f i).dp = d := ⟨_, rfl⟩
      rw [hdd] at r1 r2 r4 r5 k2
      rw [hei] at r4
      have HC := hid (fun u (hu : DecAt u b (f i)) => r5 b u hu)
      have HE := hid r4
      by_cases h9 : 9 ≤ d
      · have hnm : numD pt d = 27 := by unfold numD; rw [if_pos h9]
        rw [hnm] at HC HE
        clear r4 r5 ht hd hgk hnm hdd hei
        go_wp2_with fail
        go_quiet (fail)
        go_wp2_with (go_at_call 150; refine (HC.out _ (HD.out.drewN _)).mono ?_; rintro en w1 ⟨rfl, t1, d1⟩)
        go_roundw
        case rel => exact ⟨i + 1, by omega, by rw [HE.out]; rfl, (HT.out.drewN nq).then t1, d1⟩
        case measure => simp [intOf]; omega
      · rw [Int.not_le] at h9
        have hnm : numD pt d = pt d.toNat := by unfold numD; rw [if_neg (by omega)]
        rw [hnm] at HC HE
        obtain ⟨dn, hdn⟩ : ∃ dn : Nat, d = (dn : Int) := ⟨d.toNat, by omega⟩
        subst hdn
        rw [Int.toNat_natCast] at HC HE
        have hrow := hgk.g8.row dn (by omega)
        obtain ⟨np, hnp⟩ : ∃ np, pt dn = np := ⟨_, rfl⟩
        have hnb := hpt dn (by omega)
        rw [hnp] at HC HE hrow hnb
        obtain ⟨hnb1, hnb2⟩ := hnb
        clear r4 r5 ht hd hgk hnm hdd hei hnp
        go_wp2_with fail
        go_quiet (fail)
        go_wp2_with fail
        go_quiet (fail)
        go_wp2_with (go_at_call 150; refine (HC.out _ (HD.out.no (by repeat (first | exact Tn.refl _ _ | apply Tn.drewN)))).mono ?_; rintro en w1 ⟨rfl, t1, d1⟩)
        go_roundw
        case rel => exact ⟨i + 1, by omega, by rw [HE.out], Tn.then (by repeat (first | exact HT.out | apply Tn.drewN)) t1, d1⟩
        case measure => simp [intOf]; omega
    · have hiI : i = I := by omega
      subst hiI
      have hdp0 := HI5.out
      obtain ⟨d, hdd⟩ : ∃ d, (f i).dp = d := ⟨_, rfl⟩
      rw [hdd] at k2 hdp0
      have hx : ei = x1 := by rw [← hei]; exact HX1.out
      rw [hx]
      clear ht hd hgk hdd hei g8v hx be1 be2
      go_wp2_with fail
      clear k2 hdp0
      go_loopw [6] (fun v6 wr => ∃ j : Nat, j ≤ J ∧ v6 = .int .i64 (x1 - e' j) ∧ Tn (At1 b) w wr ∧ DecAt wr b (f' j)) (fun v6 _ => (900000 + intOf v6).toNat)
      case atStart => exact ⟨0, by omega, by rw [HJ3.out]; simp, HT.out, by rw [HJ2.out]; exact HD.out⟩
      case round =>
        obtain ⟨j, hj, rfl, ht, hd⟩ := hrel
        have HT := hid ht
        have HD := hid hd
        have hgk := HG.out.keep ht
        have HGK := hid hgk
        have k2 := hd.dp
        have kd := hd.d 0 (by omega)
        have g8v := hgk.g8.var
        obtain ⟨ej, hej⟩ : ∃ ej, e' j = ej := ⟨_, rfl⟩
        have be := HJ8.out j hj
        rw [hej] at be ⊢
        obtain ⟨be1, be2⟩ := be
        obtain ⟨d, hdd⟩ : ∃ d, (f' j).dp = d := ⟨_, rfl⟩
        obtain ⟨d0, hd0⟩ : ∃ d0, (f' j).D 0 = d0 := ⟨_, rfl⟩
        rw [hdd] at k2
        rw [hd0] at kd
        by_cases hlt : j < J
        · obtain ⟨r1, r2, r2b, r3, r4, r5⟩ := HJ9.out j hlt
          unfold DS.low at r1
          rw [hdd] at r1 r2 r2b r4 r5
          rw [hd0] at r1
          rw [hej] at r4
          have HC := hid (fun u (hu : DecAt u b (f' j)) (hg : G13 ch u g) => r5 b g u hu hg)
          have HE := hid r4
          have HG13 := hid hgk.g13
          by_cases hA : d < 0
          · by_cases h9 : 9 ≤ -d
            · have hnm : numU pt d = 27 := by unfold numU; rw [if_pos h9]
              rw [hnm] at HC HE
              clear r4 r5 ht hd hgk hnm hdd hej hd0 r1
              go_wp2_with fail
              go_quiet (fail)
              go_wp2_with (go_at_call 150; refine (HC.out _ (HD.out.drewN _) (HG13.out.no (by repeat (first | exact Tn.refl _ _ | apply Tn.drewN)))).mono ?_; rintro en w1 ⟨rfl, t1, d1⟩)
              go_roundw
              case rel => exact ⟨j + 1, by omega, by rw [HE.out]; congr 1; omega, (HT.out.drewN nq).then t1, d1⟩
              case measure => simp [intOf]; omega
            · rw [Int.not_le] at h9
              have hnm : numU pt d = pt (-d).toNat := by unfold numU; rw [if_neg (by omega)]
              rw [hnm] at HC HE
              obtain ⟨dn, hdn⟩ : ∃ dn : Nat, -d = (dn : Int) := ⟨(-d).toNat, by omega⟩
              rw [hdn, Int.toNat_natCast] at HC HE
              have hrow := hgk.g8.row dn (by omega)
              obtain ⟨np, hnp⟩ : ∃ np, pt dn = np := ⟨_, rfl⟩
              have hnb := hpt dn (by omega)
              rw [hnp] at HC HE hrow hnb
              obtain ⟨hnb1, hnb2⟩ := hnb
              have hdn9 : (dn : Int) < 9 := by omega
              clear r4 r5 ht hd hgk hnm hdd hej hnp hd0 r1 h9
              go_wp2_with fail
              go_quiet (fail)
              go_wp2_with fail
              go_quiet (fail)
              go_wp2_with (go_at_call 150; refine (HC.out _ (HD.out.no (by repeat (first | exact Tn.refl _ _ | apply Tn.drewN))) (HG13.out.no (by repeat (first | exact Tn.refl _ _ | apply Tn.drewN)))).mono ?_; rintro en w1 ⟨rfl, t1, d1⟩)
              go_roundw
              case rel => exact ⟨j + 1, by omega, by rw [HE.out]; congr 1; omega, Tn.then (by repeat (first | exact HT.out | apply Tn.drewN)) t1, d1⟩
              case measure => simp [intOf]; omega
          · have hB : d = 0 := by omega
            have hD5 : d0 < 53 := by omega
            subst hB
            have hnm : numU pt 0 = pt 0 := by unfold numU; rw [if_neg (by omega)]; rfl
            rw [hnm] at HC HE
            have hrow := hgk.g8.row 0 (by omega)
            rw [Nat.add_zero] at hrow
            obtain ⟨np, hnp⟩ : ∃ np, pt 0 = np := ⟨_, rfl⟩
            have hnb := hpt 0 (by omega)
            rw [hnp] at HC HE hrow hnb
            obtain ⟨hnb1, hnb2⟩ := hnb
            clear r4 r5 ht hd hgk hnm hdd hej hnp hd0 r1 hA r2 r2b
            go_wp2_with fail
            go_quiet (fail)
            go_wp2_with fail
            go_quiet (fail)
            go_wp2_with (go_at_call 150; refine (HC.out _ (HD.out.no (by repeat (first | exact Tn.refl _ _ | apply Tn.drewN))) (HG13.out.no (by repeat (first | exact Tn.refl _ _ | apply Tn.drewN)))).mono ?_; rintro en w1 ⟨rfl, t1, d1⟩)
            go_roundw
            case rel => exact ⟨j + 1, by omega, by rw [HE.out]; congr 1; omega, Tn.then (by repeat (first | exact HT.out | apply Tn.drewN)) t1, d1⟩
            case measure => simp [intOf]; omega
        · have hjJ : j = J := by omega
          subst hjJ
          have hnl := HJ5.out
          unfold DS.low at hnl
          rw [hdd, hd0] at hnl
          have hx : ej = x2 := by rw [← hej]; exact HX2.out
          rw [hx]
          have HNL := hid hnl
          clear ht hd hdd hej hx be1 be2 hd0 hnl
          go_upto_region 18 with fail
          go_cut [80] from 61 to 102 (fun c wx => c = .bool false ∧ wx = wr)
          case first =>
            by_cases hA : d = 0
            · subst hA
              have hD5 : 53 ≤ d0 := by have := HNL.out; omega
              have hD5b : decide (d0 < 53) = false := decide_eq_false (by omega)
              go_wp2_with fail
              go_meet
              exact ⟨rfl, rfl⟩
            · have hB : 0 < d := by have := HNL.out; omega
              have hAb : (d == 0) = false := by simpa using hA
              have hBb : decide (d < 0) = false := decide_eq_false (by omega)
              go_wp2_with fail
              go_meet
              exact ⟨rfl, rfl⟩
          case rest =>
            obtain ⟨rfl, rfl⟩ := hcut
            have f0 := HGK.out.g6.m
            have f1 := HGK.out.g6.e
            have f2 := HGK.out.g6.b
            obtain ⟨ex, hex⟩ : ∃ ex, x1 - x2 = ex := ⟨_, rfl⟩
            have hexb : -400000 ≤ ex ∧ ex ≤ 400000 := by omega
            obtain ⟨hexb1, hexb2⟩ := hexb
            rw [hex]
            have HEX := hid hex
            clear hex k2 kd g8v
            go_upto_if 111 with fail
            go_cut [6, 10] (fun v6 _ wx => v6 = .int .i64 ex1 ∧ Tn (At1 b) w wx ∧ DecAt wx b T1)
            case first =>
              by_cases hc : ex - 1 < -1022
              · obtain ⟨c1, c2⟩ := HT4.out (by rw [HEX.out]; omega)
                rw [HEX.out] at c2
                have HC := hid (c2 b _ HD.out)
                have HC1 := hid c1
                clear c1 c2
                go_wp2_with (go_at_call 150; refine (HC.out).mono ?_; rintro en w1 ⟨rfl, t1, d1⟩)
                go_meet
                exact ⟨by rw [HC1.out]; congr 1; omega, HT.out.then t1, d1⟩
              · obtain ⟨c1, c2⟩ := HT5.out (by rw [HEX.out]; omega)
                rw [HEX.out] at c1
                have HC1 := hid c1
                have HC2 := hid c2
                clear c1 c2
                rw [Int.not_lt] at hc
                go_wp2_with fail
                go_meet
                exact ⟨by rw [HC1.out], HT.out, by rw [HC2.out]; exact HD.out⟩
            case rest =>
              obtain ⟨rfl, ht, hd⟩ := hcut
              have HT := hid ht
              have HD := hid hd
              have hgk := HG.out.keep ht
              have HGK := hid hgk
              have f0 := hgk.g6.m
              have f1 := hgk.g6.e
              have f2 := hgk.g6.b
              have k3 := hd.neg
              rw [HT2.out] at k3
              obtain ⟨t3b1, t3b2⟩ := t3b
              clear ht hd hgk
              by_cases ho : 2047 ≤ ex1 + 1023
              · have hr : fbR S.neg ex1 mt = (fbT S.neg 0 2047, true) := by unfold fbR; rw [if_pos ho]
                have HR := hid hr
                clear hr
                cases hng : S.neg
                all_goals
                  rw [hng] at k3
                  go_wp2_with fail
                  go_quiet (fail)
                  go_wp2_with fail
                  go_step3
                  refine Or.inr ⟨rfl, ?_⟩
                  change Code.wp _ _ _ _ _
                  go_wp2_with fail
                  go_quiet (fail)
                  go_wp2_with fail
                  go_step3
                  go_wp2_with fail
                  go_quiet (fail)
                  go_wp2_with fail
                  try (go_quiet (fail); go_wp2_with fail)
                  rw [Exit.noGoto_ret]
                  go_ret2
                  exact ⟨by rw [HR.out, hng]; rfl, by repeat (first | exact HT.out | apply Tn.drewN)⟩
              · rw [Int.not_le] at ho
                have HG13 := hid HGK.out.g13
                have HC := hid (fun u (hu : DecAt u b T1) (hg : G13 ch u g) => HU5.out b g u hu hg)
                have hno : ¬ 2047 ≤ ex1 + 1023 := by omega
                have HNO := hid hno
                clear hno
                by_cases hm : mt = 9007199254740992
                · subst hm
                  by_cases ho2 : 2047 ≤ ex1 + 1 + 1023
                  · skip
                    have hr : fbR S.neg ex1 9007199254740992 = (fbT S.neg 0 2047, true) := by unfold fbR; rw [if_neg HNO.out, if_pos rfl, if_pos ho2]
                    have HR := hid hr
                    clear hr
                    cases hng : S.neg
                    all_goals
                      rw [hng] at k3
                      go_wp2_with fail
                      go_quiet (fail)
                      go_wp2_with (first
                        | (go_at_call 150; refine (HC.out _ (HD.out.no (by repeat (first | exact Tn.refl _ _ | apply Tn.drewN))) (HG13.out.no (by repeat (first | exact Tn.refl _ _ | apply Tn.drewN)))).mono ?_; rintro en w1 ⟨rfl, t1, d1⟩; have ht1 : Tn (At1 b) w w1 := Tn.then (by repeat (first | exact HT.out | apply Tn.drewN)) t1; have hg1 := HG.out.keep ht1; clear f0 f1 f2 k3; have f0 := hg1.g6.m; have f1 := hg1.g6.e; have f2 := hg1.g6.b; have k3 := d1.neg; rw [HNG.out, hng] at k3; have HT1 := hid ht1; have HD1 := hid d1; clear ht1 t1 hg1 d1)
                        | (go_at_call 151; refine (HMT.out b _ HD1.out).mono ?_; rintro en w2 ⟨rfl, rfl⟩))
                      go_quiet (fail)
                      go_wp2_with fail
                      go_step3
                      refine Or.inr ⟨rfl, ?_⟩
                      change Code.wp _ _ _ _ _
                      go_wp2_with fail
                      go_quiet (fail)
                      go_wp2_with fail
                      go_step3
                      go_wp2_with fail
                      go_quiet (fail)
                      go_wp2_with fail
                      try (go_quiet (fail); go_wp2_with fail)
                      rw [Exit.noGoto_ret]
                      go_ret2
                      exact ⟨by rw [HR.out, hng]; rfl, by repeat (first | exact HT1.out | apply Tn.drewN)⟩
                  · have hno2 := hid ho2
                    rw [Int.not_le] at ho2
                    have hbb : bits .and .u64 4503599627370496 4503599627370496 = 4503599627370496 := by decide
                    have hr : fbR S.neg ex1 9007199254740992 = (fbT S.neg 4503599627370496 (ex1 + 1 + 1023), false) := by unfold fbR; rw [if_neg HNO.out, if_pos rfl, if_neg hno2.out]
                    have HR := hid hr
                    clear hr
                    cases hng : S.neg
                    all_goals
                      rw [hng] at k3
                      go_wp2_with fail
                      go_quiet (fail)
                      go_wp2_with (first
                        | (go_at_call 150; refine (HC.out _ (HD.out.no (by repeat (first | exact Tn.refl _ _ | apply Tn.drewN))) (HG13.out.no (by repeat (first | exact Tn.refl _ _ | apply Tn.drewN)))).mono ?_; rintro en w1 ⟨rfl, t1, d1⟩; have ht1 : Tn (At1 b) w w1 := Tn.then (by repeat (first | exact HT.out | apply Tn.drewN)) t1; have hg1 := HG.out.keep ht1; clear f0 f1 f2 k3; have f0 := hg1.g6.m; have f1 := hg1.g6.e; have f2 := hg1.g6.b; have k3 := d1.neg; rw [HNG.out, hng] at k3; have HT1 := hid ht1; have HD1 := hid d1; clear ht1 t1 hg1 d1)
                        | (go_at_call 151; refine (HMT.out b _ HD1.out).mono ?_; rintro en w2 ⟨rfl, rfl⟩))
                      go_quiet (fail)
                      go_wp2_with fail
                      go_step3
                      refine Or.inl ⟨rfl, ?_⟩
                      change Code.wp _ _ _ _ _
                      go_wp2_with fail
                      go_quiet (fail)
                      go_wp2_with fail
                      try (go_quiet (fail); go_wp2_with fail)
                      rw [Exit.noGoto_ret]
                      go_ret2
                      exact ⟨by rw [HR.out, hng]; rfl, by repeat (first | exact HT1.out | apply Tn.drewN)⟩
                · have hmb : (mt == 9007199254740992) = false := by simpa using hm
                  by_cases hden : bits .and .u64 mt 4503599627370496 = 0
                  · skip
                    have hr : fbR S.neg ex1 mt = (fbT S.neg mt 0, false) := by unfold fbR; rw [if_neg HNO.out, if_neg hm, if_pos hden]
                    have HR := hid hr
                    clear hr
                    cases hng : S.neg
                    all_goals
                      rw [hng] at k3
                      go_wp2_with fail
                      go_quiet (fail)
                      go_wp2_with (first
                        | (go_at_call 150; refine (HC.out _ (HD.out.no (by repeat (first | exact Tn.refl _ _ | apply Tn.drewN))) (HG13.out.no (by repeat (first | exact Tn.refl _ _ | apply Tn.drewN)))).mono ?_; rintro en w1 ⟨rfl, t1, d1⟩; have ht1 : Tn (At1 b) w w1 := Tn.then (by repeat (first | exact HT.out | apply Tn.drewN)) t1; have hg1 := HG.out.keep ht1; clear f0 f1 f2 k3; have f0 := hg1.g6.m; have f1 := hg1.g6.e; have f2 := hg1.g6.b; have k3 := d1.neg; rw [HNG.out, hng] at k3; have HT1 := hid ht1; have HD1 := hid d1; clear ht1 t1 hg1 d1)
                        | (go_at_call 151; refine (HMT.out b _ HD1.out).mono ?_; rintro en w2 ⟨rfl, rfl⟩))
                      go_step3
                      refine Or.inl ⟨rfl, ?_⟩
                      change Code.wp _ _ _ _ _
                      go_wp2_with fail
                      go_quiet (fail)
                      go_wp2_with fail
                      try (go_quiet (fail); go_wp2_with fail)
                      rw [Exit.noGoto_ret]
                      go_ret2
                      exact ⟨by rw [HR.out, hng]; rfl, by repeat (first | exact HT1.out | apply Tn.drewN)⟩
                  · have hdb : (bits .and .u64 mt 4503599627370496 == 0) = false := by simpa using hden
                    have hr : fbR S.neg ex1 mt = (fbT S.neg mt (ex1 + 1023), false) := by unfold fbR; rw [if_neg HNO.out, if_neg hm, if_neg hden]
                    have HR := hid hr
                    clear hr
                    cases hng : S.neg
                    all_goals
                      rw [hng] at k3
                      go_wp2_with fail
                      go_quiet (fail)
                      go_wp2_with (first
                        | (go_at_call 150; refine (HC.out _ (HD.out.no (by repeat (first | exact Tn.refl _ _ | apply Tn.drewN))) (HG13.out.no (by repeat (first | exact Tn.refl _ _ | apply Tn.drewN)))).mono ?_; rintro en w1 ⟨rfl, t1, d1⟩; have ht1 : Tn (At1 b) w w1 := Tn.then (by repeat (first | exact HT.out | apply Tn.drewN)) t1; have hg1 := HG.out.keep ht1; clear f0 f1 f2 k3; have f0 := hg1.g6.m; have f1 := hg1.g6.e; have f2 := hg1.g6.b; have k3 := d1.neg; rw [HNG.out, hng] at k3; have HT1 := hid ht1; have HD1 := hid d1; clear ht1 t1 hg1 d1)
                        | (go_at_call 151; refine (HMT.out b _ HD1.out).mono ?_; rintro en w2 ⟨rfl, rfl⟩))
                      go_step3
                      refine Or.inl ⟨rfl, ?_⟩
                      change Code.wp _ _ _ _ _
                      go_wp2_with fail
                      go_quiet (fail)
                      go_wp2_with fail
                      try (go_quiet (fail); go_wp2_with fail)
                      rw [Exit.noGoto_ret]
                      go_ret2
                      exact ⟨by rw [HR.out, hng]; rfl, by repeat (first | exact HT1.out | apply Tn.drewN)⟩
end Go.Proofs.YtcmhfeeocehlaaaGreatDoor
