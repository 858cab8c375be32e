/-
  strconv.ParseFloat: leftShift.
-/
import Derived.Test.YtcmhfeeocehlaaaGreatDoorPFB
import Derived.Deep.LoopGhost
import Derived.Deep.CutBlock
namespace Go.Proofs.YtcmhfeeocehlaaaGreatDoor
set_option linter.unusedSimpArgs false
set_option linter.unusedVariables false
open Go.RowKit Go.PlainAid
attribute [local go_sem ↓] Go.wp_at_zero Go.wp_at_succ

theorem DS.cn_tail (S : DS) (M : Nat) : ∀ i, S.cn M (S.nd + i) = S.cn M S.nd / 10 ^ i
  | 0 => by simp
  | i + 1 => by
    show (S.cn M (S.nd + i) + S.dr (S.nd + i) * M) / 10 = _
    have hz : S.dr (S.nd + i) = 0 := by unfold DS.dr; rw [if_neg (by omega)]
    rw [hz, Nat.zero_mul, Nat.add_zero, S.cn_tail M i, Nat.div_div_eq_div_mul, Nat.pow_succ]
/-- how many digits are put down: E -/
structure DS.Ends (S : DS) (M E : Nat) : Prop where
  le : S.nd ≤ E
  nought : S.cn M E = 0
  more : ∀ j, S.nd ≤ j → j < E → S.cn M j ≠ 0
theorem DS.Ok.ends {S : DS} (h : S.Ok) {k d0 : Nat} {c : ByteArray} (hc : Cheat k d0 c) (hd0 : 1 ≤ d0) : S.Ends (2 ^ k) (S.nd + S.dl d0 c) := by
  obtain ⟨h1, h2⟩ := h.dl_num hc hd0
  have pn : 0 < 10 ^ S.nd := Nat.pow_pos (by decide)
  have e := S.cn_eq (2 ^ k) S.nd
  have u1 : S.cn (2 ^ k) S.nd < 10 ^ (S.dl d0 c) := by rw [e]; exact (Nat.div_lt_iff_lt_mul pn).2 h1
  refine ⟨by omega, by rw [S.cn_tail]; exact Nat.div_eq_of_lt u1, fun j hj1 hj2 => ?_⟩
  obtain ⟨i, rfl⟩ : ∃ i, j = S.nd + i := ⟨j - S.nd, by omega⟩
  have h3 := h2 (by omega)
  have u2 : 10 ^ (S.dl d0 c - 1) ≤ S.cn (2 ^ k) S.nd := by rw [e]; exact (Nat.le_div_iff_mul_le pn).2 h3
  rw [S.cn_tail]
  have u3 : 10 ^ i ≤ 10 ^ (S.dl d0 c - 1) := Nat.pow_le_pow_right (by decide) (by omega)
  have := Nat.div_pos (Nat.le_trans u3 u2) (Nat.pow_pos (by decide))
  omega
/-- the digits that were put down from the end, j of E -/
def DS.left (S : DS) (M E j : Nat) : Nat → Int := fun i => if E - j ≤ i ∧ i < E then ((S.xn M (E - 1 - i) % 10 : Nat) : Int) + 48 else S.D i
def DS.lostL (S : DS) (M E : Nat) : Nat → Bool
  | 0 => S.tr
  | j + 1 => if 800 ≤ E - 1 - j then S.lostL M E j || decide (S.xn M j % 10 ≠ 0) else S.lostL M E j
def DS.shl (S : DS) (M E : Nat) : DS := DS.trim ⟨S.left M E E, min E 800, wrap64 (S.dp + ((E : Int) - S.nd)), S.neg, S.lostL M E E⟩
theorem DS.left_put (S : DS) (M E j nd : Nat) (dp : Int) (ng tr : Bool) (h : j < E) : DS.put ⟨S.left M E j, nd, dp, ng, tr⟩ (E - 1 - j) (((S.xn M j % 10 : Nat) : Int) + 48) = ⟨S.left M E (j + 1), nd, dp, ng, tr⟩ := by
  unfold DS.put DS.left
  simp only [DS.mk.injEq, and_true]
  funext i
  by_cases e : i = E - 1 - j
  · subst e
    rw [if_pos rfl, if_pos (by omega), show E - 1 - (E - 1 - j) = j by omega]
  · rw [if_neg e]
    by_cases h2 : E - j ≤ i ∧ i < E
    · rw [if_pos h2, if_pos (by omega)]
    · rw [if_neg h2, if_neg (by omega)]
theorem DS.left_out (S : DS) (M E j : Nat) (h : j < E) (h8 : 800 ≤ E - 1 - j) : ∀ i, i < 800 → S.left M E (j + 1) i = S.left M E j i := by
  intro i hi
  unfold DS.left
  by_cases h2 : E - j ≤ i ∧ i < E
  · rw [if_pos h2, if_pos (by omega)]
  · rw [if_neg h2, if_neg (by omega)]
theorem DecAt.same {w : World} {b nd : Nat} {D D' : Nat → Int} {dp : Int} {ng tr : Bool} (h : DecAt w b ⟨D, nd, dp, ng, tr⟩) (e : ∀ i, i < 800 → D' i = D i) : DecAt w b ⟨D', nd, dp, ng, tr⟩ :=
  ⟨fun i hi => by have := h.d i hi; simp only at this ⊢; rw [this, e i hi], h.nd, h.dp, h.neg, h.tr, h.un⟩

set_option maxHeartbeats 8000000 in
set_option maxRecDepth 100000 in
theorem lshift_raw (S : DS) (k M d0 g o b : Nat) (c : ByteArray) (w : World) (h : DecAt w b S) (ok : S.Ok) (hk : k ≤ 60) (hM : M = 2 ^ k) (hc : Cheat k d0 c) (hd0 : 1 ≤ d0) (hd19 : d0 ≤ 19) (E : Nat) (hE : E = S.nd + S.dl d0 c)
    (g13 : w.cell? ⟨13, 0, none⟩ = some (.slice (some ⟨g, o, none⟩) 61 61)) (gd : w.cell? ⟨g, o + k * 2, none⟩ = some (.int .i64 (d0 : Int))) (gs : w.cell? ⟨g, o + k * 2 + 1, none⟩ = some (.string c)) :
    Calls Tryz.prog 161 #[.pointer (some ⟨b, 0, none⟩), .int .u64 (k : Int)] w fun e w' => e = .returned (.tuple #[]) ∧ Tn (At1 b) w w' ∧ DecAt w' b (S.shl M E) := by
  have hM60 : M ≤ 1152921504606846976 := by rw [hM]; exact Nat.le_trans (Nat.pow_le_pow_right (by decide) hk) (by decide)
  have hM1 : 1 ≤ M := by rw [hM]; exact Nat.one_le_two_pow
  have hpw : (2 : Int) ^ k = (M : Int) := by rw [hM]; simp
  have hki : (k : Int) ≤ 64 := by omega
  have hk61 : (k : Int) < 61 := by omega
  have HE := hid (show S.Ends M E by rw [hM, hE]; exact ok.ends hc hd0)
  have HO := hid ok
  have HH := hid h
  have HP := hid (fun w (h : DecAt w b S) => prefix_raw S c b 800 w h ok.le hc.cut.le)
  have k1 := h.nd
  have k2 := h.dp
  have z800 := h.un 800
  have z801 := h.un 801
  have hnd8 := ok.le
  have hnd1 := ok.pos
  have hn8 : (S.nd : Int) ≤ 800 := by omega
  have HDL : Hid (E = S.nd + S.dl d0 c) := hid hE
  clear h ok hM hE
  go_enter Tryz.func161, Tryz.ntmps161
  go_wp2_with fail
  go_quiet ((go_at_call 169; exact Calls.quiet_of (HP.out _ (HH.out.drewN _))))
  go_upto_if 30 with fail
  go_cut [4] (fun v4 wx => v4 = .int .i64 ((E : Int) - (S.nd : Int)) ∧ wx = w.drewN nq)
  case first =>
    have hE := HDL.out
    unfold DS.dl at hE
    cases hpl : S.pl c 0
    · rw [hpl, if_neg (by simp)] at hE
      go_wp2_with fail
      go_meet
      exact ⟨by rw [hE]; congr 1; omega, rfl⟩
    · rw [hpl, if_pos rfl] at hE
      go_wp2_with fail
      go_meet
      exact ⟨by rw [hE]; congr 1; omega, rfl⟩
  case rest =>
    obtain ⟨rfl, rfl⟩ := hcut
    have hEn := HE.out.le
    have hE8 : E ≤ 900 := by have := HDL.out; have h2 : S.dl d0 c ≤ d0 := (by unfold DS.dl; split <;> omega); omega
    have hEi : (S.nd : Int) + ((E : Int) - (S.nd : Int)) = (E : Int) := by omega
    go_wp2_with fail
    have HD0 : Hid (DecAt (w.drewN nq) b ⟨S.left M E 0, S.nd, S.dp, S.neg, S.lostL M E 0⟩) := hid ((HH.out.drewN nq).same (fun i _ => by unfold DS.left; rw [if_neg (by omega)]))
    clear k1 k2 z800 z801 g13 gd gs
    go_loopw [5, 6, 7] (fun v5 v6 v7 wr => ∃ j : Nat, j ≤ S.nd ∧ v5 = .int .i64 ((S.nd : Int) - 1 - j) ∧ v6 = .int .i64 ((E : Int) - j) ∧ v7 = .int .u64 (S.cn M j : Int) ∧ Tn (At1 b) w wr ∧ DecAt wr b ⟨S.left M E j, S.nd, S.dp, S.neg, S.lostL M E j⟩) (fun v5 _ _ _ => (intOf v5 + 1).toNat)
    case atStart => exact ⟨0, by omega, by simp, by simp, rfl, (Tn.refl _ _).drewN nq, HD0.out⟩
    case round =>
      obtain ⟨j, hj, rfl, rfl, rfl, ht, hd⟩ := hrel
      have HT := hid ht
      have HD := hid hd
      by_cases hlt : j < S.nd
      · obtain ⟨r, hr⟩ : ∃ r, S.nd - 1 - j = r := ⟨_, rfl⟩
        have hri : (S.nd : Int) - 1 - (j : Int) = (r : Int) := by omega
        obtain ⟨p, hp⟩ : ∃ p, E - 1 - j = p := ⟨_, rfl⟩
        have hpi : (E : Int) - (j : Int) = (p : Int) + 1 := by omega
        rw [hri, hpi]
        have kd := hd.d r (by omega)
        have hlf : S.left M E j r = 48 + (S.dr j : Int) := by
          unfold DS.left; rw [if_neg (by omega)]
          unfold DS.dr; rw [if_pos hlt, hr]
          exact HO.out.dgE (by omega)
        simp only at kd
        rw [hlf] at kd
        have h9 := HO.out.dr9 j
        have hx := HO.out.xn_lt hM1 j
        have hxe : S.xn M j = S.cn M j + S.dr j * M := rfl
        obtain ⟨cy, hcy⟩ : ∃ cy, S.cn M j = cy := ⟨_, rfl⟩
        obtain ⟨dg, hdg⟩ : ∃ dg, S.dr j = dg := ⟨_, rfl⟩
        obtain ⟨x, hxx⟩ : ∃ x, S.xn M j = x := ⟨_, rfl⟩
        rw [hcy]
        rw [hdg] at kd h9
        rw [hxx] at hx
        rw [hxx, hcy, hdg] at hxe
        have HX := hid hxx
        have hp0 : (0 : Int) ≤ (dg : Int) * (M : Int) := Int.mul_nonneg (by omega) (by omega)
        have hp1 : (cy : Int) + (dg : Int) * (M : Int) = (x : Int) := by rw [hxe, Int.natCast_add, Int.natCast_mul]
        have hs1 : ((48 : Int) + (dg : Int) - 48) = (dg : Int) := by omega
        have hr0 : (r : Int) < 800 := by omega
        have HRI := hid hri
        have HPI := hid hpi
        have HRR := hid hr
        have HPP := hid hp
        have hpE : p ≤ 900 := by omega
        have HXN : Hid (S.cn M (j + 1) = x / 10) := hid (by rw [S.cn_succ, HX.out])
        clear hri hpi hr hp hxe hlf hcy hdg hxx ht hd
        by_cases hp8 : p < 800
        · have kw := HD.out.d p hp8
          have zw := HD.out.un p
          simp only at kw
          have hp8i : (p : Int) < 800 := by omega
          go_wp2_with fail
          have hd2 := HD.out.setD p (((x % 10 : Nat) : Int) + 48) hp8
          have e := S.left_put M E j S.nd S.dp S.neg (S.lostL M E j) (by omega)
          rw [HPP.out, HX.out] at e
          rw [e, show ((x % 10 : Nat) : Int) + 48 = (x : Int) - 10 * ((x : Int) / 10) + 48 by omega] at hd2
          have hl : S.lostL M E (j + 1) = S.lostL M E j := by rw [DS.lostL, HPP.out, if_neg (by omega)]
          have q1 := HRI.out
          have q2 := HPI.out
          go_roundw
          case rel => exact ⟨j + 1, by omega, by congr 1; omega, by congr 1; omega, by rw [HXN.out]; congr 1, At1.set HT.out _ _, by rw [hl]; exact hd2⟩
          case measure => simp [intOf] <;> omega
        · have hp8i : ¬ (p : Int) < 800 := by omega
          have k803 := HD.out.tr
          have z803 := HD.out.un 803
          simp only at k803
          have hso := S.left_out M E j (by omega) (by rw [HPP.out]; omega)
          by_cases hrm : x % 10 = 0
          · have hrmi : (x : Int) - 10 * ((x : Int) / 10) = 0 := by omega
            have hl : S.lostL M E (j + 1) = S.lostL M E j := by rw [DS.lostL, HPP.out, if_pos (by omega), HX.out, decide_eq_false (by simpa using hrm), Bool.or_false]
            have HL := hid hl
            have HSO := hid hso
            clear hl hso
            go_wp2_with fail
            have q1 := HRI.out
            have q2 := HPI.out
            go_roundw
            case rel => exact ⟨j + 1, by omega, by congr 1; omega, by congr 1; omega, by rw [HXN.out]; congr 1, HT.out, by rw [HL.out]; exact HD.out.same HSO.out⟩
            case measure => simp [intOf] <;> omega
          · have hrmi : ¬ (x : Int) - 10 * ((x : Int) / 10) = 0 := by omega
            have hl : S.lostL M E (j + 1) = true := by rw [DS.lostL, HPP.out, if_pos (by omega), HX.out, decide_eq_true (by simpa using hrm), Bool.or_true]
            have HL := hid hl
            have HSO := hid hso
            clear hl hso
            go_wp2_with fail
            have q1 := HRI.out
            have q2 := HPI.out
            go_roundw
            case rel => exact ⟨j + 1, by omega, by congr 1; omega, by congr 1; omega, by rw [HXN.out]; congr 1, At1.set HT.out _ _, by rw [HL.out]; exact (HD.out.setT true).same HSO.out⟩
            case measure => simp [intOf] <;> omega
      · have hjn : j = S.nd := by omega
        subst hjn
        have hri : (S.nd : Int) - 1 - (S.nd : Int) = -1 := by omega
        rw [hri]
        clear ht hd hri
        go_wp2_with fail
        go_loopg [6, 7] (E - S.nd) (fun g v6 v7 wr => ∃ j : Nat, S.nd ≤ j ∧ j ≤ E ∧ g = E - j ∧ v6 = .int .i64 ((E : Int) - j) ∧ v7 = .int .u64 (S.cn M j : Int) ∧ Tn (At1 b) w wr ∧ DecAt wr b ⟨S.left M E j, S.nd, S.dp, S.neg, S.lostL M E j⟩)
        case atStart => exact ⟨S.nd, by omega, by omega, rfl, rfl, rfl, HT.out, HD.out⟩
        case round =>
          obtain ⟨j, hj1, hj2, hg, rfl, rfl, ht, hd⟩ := hrel
          have HT := hid ht
          have HD := hid hd
          have HG := hid hg
          have hx := HO.out.cn_lt hM1 j
          have hmore := HE.out.more j
          have hend := HE.out.nought
          have hz : S.dr j = 0 := by unfold DS.dr; rw [if_neg (by omega)]
          have hxe : S.xn M j = S.cn M j := by unfold DS.xn; rw [hz]; simp
          obtain ⟨x, hxx⟩ : ∃ x, S.cn M j = x := ⟨_, rfl⟩
          rw [hxx] at hx hmore hxe ⊢
          have HX := hid hxe
          have HC := hid hxx
          by_cases hx0 : x = 0
          · have hjE : j = E := by
              rcases Nat.lt_or_ge j E with h1 | h1
              · exact absurd hx0 (hmore hj1 h1)
              · omega
            subst hx0
            subst hjE
            have k1 := hd.nd
            have z800 := hd.un 800
            have k2 := hd.dp
            have z801 := hd.un 801
            simp only at k1 k2
            clear ht hd hmore hend hg hxx hxe
            have hED := hid (HD.out)
            by_cases hE800 : j < 800
            · have hE8i : ¬ (800 : Int) ≤ (j : Int) := by omega
              have HTR := hid (dtrim_raw _ b _ ((HD.out.setN j).setP (wrap64 (S.dp + ((j : Int) - S.nd)))) (by simp only; omega))
              go_wp2_with (go_at_call 170; refine (HTR.out).mono ?_; rintro e w9 ⟨rfl, t9, d9⟩)
              go_end0
              refine ⟨rfl, (At1.set (At1.set HT.out _ _) _ _).then t9, ?_⟩
              have e : S.shl M j = DS.trim ⟨S.left M j j, j, wrap64 (S.dp + ((j : Int) - S.nd)), S.neg, S.lostL M j j⟩ := by
                unfold DS.shl; rw [show min j 800 = j by omega]
              rw [e]
              exact d9
            · have hE8i : (800 : Int) ≤ (j : Int) := by omega
              have HTR := hid (dtrim_raw _ b _ (((HD.out.setN j).setN 800).setP (wrap64 (S.dp + ((j : Int) - S.nd)))) (by simp only; omega))
              go_wp2_with (go_at_call 170; refine (HTR.out).mono ?_; rintro e w9 ⟨rfl, t9, d9⟩)
              go_end0
              refine ⟨rfl, (At1.set (At1.set (At1.set HT.out _ _) _ _) _ _).then t9, ?_⟩
              have e : S.shl M j = DS.trim ⟨S.left M j j, 800, wrap64 (S.dp + ((j : Int) - S.nd)), S.neg, S.lostL M j j⟩ := by
                unfold DS.shl; rw [show min j 800 = 800 by omega]
              rw [e]
              exact d9
          · have hjE : j < E := by
              rcases Nat.lt_or_ge j E with h1 | h1
              · exact h1
              · have : j = E := by omega
                subst this
                rw [hxx] at hend
                exact absurd hend hx0
            obtain ⟨p, hp⟩ : ∃ p, E - 1 - j = p := ⟨_, rfl⟩
            have hpi : (E : Int) - (j : Int) = (p : Int) + 1 := by omega
            rw [hpi]
            have hxp : (0 : Int) < (x : Int) := by omega
            have HPI := hid hpi
            have HPP := hid hp
            have hpE : p ≤ 900 := by omega
            have HXN : Hid (S.cn M (j + 1) = x / 10) := hid (by rw [S.cn_succ, HX.out])
            clear hpi hp hxe hxx ht hd hmore hend hg
            by_cases hp8 : p < 800
            · have kw := HD.out.d p hp8
              have zw := HD.out.un p
              simp only at kw
              have hp8i : (p : Int) < 800 := by omega
              go_wp2_with fail
              have hd2 := HD.out.setD p (((x % 10 : Nat) : Int) + 48) hp8
              have e := S.left_put M E j S.nd S.dp S.neg (S.lostL M E j) (by omega)
              rw [HPP.out, HX.out] at e
              rw [e, show ((x % 10 : Nat) : Int) + 48 = (x : Int) - 10 * ((x : Int) / 10) + 48 by omega] at hd2
              have hl : S.lostL M E (j + 1) = S.lostL M E j := by rw [DS.lostL, HPP.out, if_neg (by omega)]
              have q2 := HPI.out
              go_roundg (E - (j + 1))
              case measure => have := HG.out; omega
              case rel => exact ⟨j + 1, by omega, by omega, rfl, by congr 1; omega, by rw [HXN.out]; congr 1, At1.set HT.out _ _, by rw [hl]; exact hd2⟩
            · have hp8i : ¬ (p : Int) < 800 := by omega
              have k803 := HD.out.tr
              have z803 := HD.out.un 803
              simp only at k803
              have hso := S.left_out M E j (by omega) (by rw [HPP.out]; omega)
              by_cases hrm : x % 10 = 0
              · have hrmi : (x : Int) - 10 * ((x : Int) / 10) = 0 := by omega
                have hl : S.lostL M E (j + 1) = S.lostL M E j := by rw [DS.lostL, HPP.out, if_pos (by omega), HX.out, decide_eq_false (by simpa using hrm), Bool.or_false]
                have HL := hid hl
                have HSO := hid hso
                clear hl hso
                go_wp2_with fail
                have q2 := HPI.out
                go_roundg (E - (j + 1))
                case measure => have := HG.out; omega
                case rel => exact ⟨j + 1, by omega, by omega, rfl, by congr 1; omega, by rw [HXN.out]; congr 1, HT.out, by rw [HL.out]; exact HD.out.same HSO.out⟩
              · have hrmi : ¬ (x : Int) - 10 * ((x : Int) / 10) = 0 := by omega
                have hl : S.lostL M E (j + 1) = true := by rw [DS.lostL, HPP.out, if_pos (by omega), HX.out, decide_eq_true (by simpa using hrm), Bool.or_true]
                have HL := hid hl
                have HSO := hid hso
                clear hl hso
                go_wp2_with fail
                have q2 := HPI.out
                go_roundg (E - (j + 1))
                case measure => have := HG.out; omega
                case rel => exact ⟨j + 1, by omega, by omega, rfl, by congr 1; omega, by rw [HXN.out]; congr 1, At1.set HT.out _ _, by rw [HL.out]; exact (HD.out.setT true).same HSO.out⟩
end Go.Proofs.YtcmhfeeocehlaaaGreatDoor
