/-
  strconv.ParseFloat: (*decimal).set: what it gathers, in plain words.
-/
import Derived.Test.YtcmhfeeocehlaaaGreatDoorPFA
import Derived.Test.YtcmhfeeocehlaaaGreatDoorPFB
import Derived.BigRegion
namespace Go.Proofs.YtcmhfeeocehlaaaGreatDoor
set_option linter.unusedSimpArgs false
set_option linter.unusedVariables false
open Go.RowKit Go.PlainAid
attribute [local go_sem ↓] Go.wp_at_zero Go.wp_at_succ

/-- what the loop over the digits has gathered -/
structure SS where
  D : Nat → Int
  nd : Nat
  dp : Int
  dot : Bool
  digs : Bool
def ssStep (c : Int) (r : SS) : SS :=
  if c = 46 then { r with dot := true, dp := (r.nd : Int) }
  else if c = 48 ∧ r.nd = 0 then { r with digs := true, dp := r.dp - 1 }
  else { r with digs := true, D := fun i => if i = r.nd then c else r.D i, nd := r.nd + 1 }
def ssAt (s : ByteArray) (i0 : Nat) : Nat → SS
  | 0 => ⟨fun _ => 0, 0, 0, false, false⟩
  | j + 1 => ssStep (bt s (i0 + j)) (ssAt s i0 j)
theorem ss_bound (s : ByteArray) (i0 : Nat) : ∀ j, (ssAt s i0 j).nd ≤ j ∧ -(j : Int) ≤ (ssAt s i0 j).dp ∧ (ssAt s i0 j).dp ≤ j
  | 0 => by simp [ssAt]
  | j + 1 => by
    have ih := ss_bound s i0 j
    rw [ssAt]
    unfold ssStep
    split
    · simp only; omega
    · split
      · simp only; omega
      · simp only; omega
/-- its digits are digits, the first is not nought -/
theorem ss_ok {s : ByteArray} {i0 e : Nat} (hd : Dgs s i0 e) : ∀ j, i0 + j ≤ e → (∀ i, i < (ssAt s i0 j).nd → 48 ≤ (ssAt s i0 j).D i ∧ (ssAt s i0 j).D i ≤ 57) ∧ (1 ≤ (ssAt s i0 j).nd → 49 ≤ (ssAt s i0 j).D 0)
  | 0, _ => by simp [ssAt]
  | j + 1, hj => by
    have ih := ss_ok hd j (by omega)
    have hc := hd.all (i0 + j) (by omega) (by omega)
    rw [ssAt]
    unfold ssStep
    by_cases h46 : bt s (i0 + j) = 46
    · rw [if_pos h46]; exact ih
    · rw [if_neg h46]
      have hc' : 48 ≤ bt s (i0 + j) ∧ bt s (i0 + j) ≤ 57 := by omega
      by_cases h48 : bt s (i0 + j) = 48 ∧ (ssAt s i0 j).nd = 0
      · rw [if_pos h48]; exact ih
      · rw [if_neg h48]
        refine ⟨fun i hi => ?_, fun _ => ?_⟩
        · simp only at hi ⊢
          by_cases hin : i = (ssAt s i0 j).nd
          · rw [if_pos hin]; exact hc'
          · rw [if_neg hin]; exact ih.1 i (by omega)
        · simp only
          by_cases h0 : (ssAt s i0 j).nd = 0
          · rw [if_pos h0.symm]
            omega
          · rw [if_neg (Ne.symm h0)]; exact ih.2 (by omega)
/-- readFloat counts the same digits -/
theorem ss_rf (s : ByteArray) (i0 : Nat) : ∀ j, j ≤ 100 → (rfAt s i0 j).nd = ((ssAt s i0 j).nd : Int) ∧ ((ssAt s i0 j).nd = 0 → (rfAt s i0 j).mant = 0) ∧ (rfAt s i0 j).ndm ≤ (rfAt s i0 j).nd ∧ 0 ≤ (rfAt s i0 j).ndm
  | 0, _ => by simp [ssAt, rfAt]
  | j + 1, hj => by
    obtain ⟨h1, h2, h3, h4⟩ := ss_rf s i0 j (by omega)
    have hb := (ss_bound s i0 j).1
    rw [ssAt, rfAt]
    unfold ssStep rfStep
    by_cases h46 : bt s (i0 + j) = 46
    · rw [if_pos h46, if_pos h46]; exact ⟨h1, h2, h3, h4⟩
    · rw [if_neg h46, if_neg h46]
      by_cases h48 : bt s (i0 + j) = 48 ∧ (ssAt s i0 j).nd = 0
      · rw [if_pos h48, if_pos ⟨h48.1, by omega⟩]; exact ⟨h1, h2, h3, h4⟩
      · rw [if_neg h48, if_neg (fun h => h48 ⟨h.1, by omega⟩)]
        have hw : ∀ x : Int, 0 ≤ x → x ≤ 1000 → wrap64 x = x := fun x a b => by unfold wrap64; omega
        split
        · refine ⟨by simp only; rw [hw _ (by omega) (by omega)]; omega, fun h => by simp at h, ?_, ?_⟩
          · simp only; rw [hw _ (by omega) (by omega), hw _ (by omega) (by omega)]; omega
          · simp only; rw [hw _ (by omega) (by omega)]; omega
        · refine ⟨by simp only; rw [hw _ (by omega) (by omega)]; omega, fun h => by simp at h, ?_, ?_⟩
          · simp only; rw [hw _ (by omega) (by omega)]; omega
          · simp only; omega
theorem ss_dot {s : ByteArray} {i0 : Nat} : ∀ j, (ssAt s i0 j).dot = true → ∃ k, i0 ≤ k ∧ k < i0 + j ∧ bt s k = 46
  | 0, h => by cases h
  | j + 1, h => by
    unfold ssAt ssStep at h
    split at h
    · rename_i hc
      exact ⟨i0 + j, by omega, by omega, hc⟩
    · have h' : (ssAt s i0 j).dot = true := by
        split at h
        · exact h
        · exact h
      obtain ⟨k, h1, h2, h3⟩ := ss_dot j h'
      exact ⟨k, h1, by omega, h3⟩
theorem ss_one {s : ByteArray} {i0 e j i : Nat} (hd : Dgs s i0 e) (h1 : i0 ≤ i) (h2 : i < e) (h3 : i = i0 + j) (hdt : (ssAt s i0 j).dot = true) : bt s i ≠ 46 := by
  obtain ⟨k, k1, k2, k3⟩ := ss_dot j hdt
  exact hd.one k i k1 (by omega) h2 k3
theorem ss_digs {s : ByteArray} {i0 : Nat} (h0 : 48 ≤ bt s i0) : ∀ j, (ssAt s i0 (j + 1)).digs = true
  | 0 => by
    unfold ssAt ssStep
    have : ¬ bt s (i0 + 0) = 46 := by simp; omega
    rw [if_neg this]
    split <;> rfl
  | j + 1 => by
    have ih := ss_digs h0 j
    rw [ssAt]
    unfold ssStep
    split
    · exact ih
    · split <;> rfl
theorem DecAt.setG {w : World} {b : Nat} {S : DS} (h : DecAt w b S) (x : Bool) : DecAt (w.setCell ⟨b, 802, none⟩ (.bool x)) b { S with neg := x } := by
  refine ⟨fun i hi => ?_, ?_, ?_, set_same (by rw [h.neg]; rfl), ?_, fun i => (World.frozen?_setCell _ _ _ _).trans (h.un i)⟩
  · rw [cell_set_ne (Or.inr (by omega))]; exact h.d i hi
  · rw [cell_set_ne (Or.inr (by omega))]; exact h.nd
  · rw [cell_set_ne (Or.inr (by omega))]; exact h.dp
  · rw [cell_set_ne (Or.inr (by omega))]; exact h.tr
/-- the decimal that is set -/
def SS.ds (r : SS) (ng : Bool) (x : Option Int) : DS := ⟨r.D, r.nd, match x with | none => (if r.dot then r.dp else (r.nd : Int)) | some x => wrap64 ((if r.dot then r.dp else (r.nd : Int)) + x), ng, false⟩
end Go.Proofs.YtcmhfeeocehlaaaGreatDoor
namespace Go.Proofs.YtcmhfeeocehlaaaGreatDoor
set_option linter.unusedSimpArgs false
set_option linter.unusedVariables false
open Go.RowKit Go.PlainAid
attribute [local go_sem ↓] Go.wp_at_zero Go.wp_at_succ

set_option maxHeartbeats 16000000 in
set_option maxRecDepth 100000 in
theorem set_plainN (s : ByteArray) (e b : Nat) (w : World) (h : Rtx s) (hd : Dgs s 1 e) (h0 : bt s 0 = 45) (r : SS) (hr : ssAt s 1 (e - 1) = r) (hw : DecAt w b ⟨fun _ => 0, 0, 0, false, false⟩) (he : e = s.size) :
    Calls Tryz.prog 123 #[.pointer (some ⟨b, 0, none⟩), .string s] w fun en w' => en = .returned (.bool true) ∧ Tn (At1 b) w w' ∧ DecAt w' b (r.ds true none) := by
  have hb := get_bt s
  have hp := h.pos
  have hsm := h.small
  have HL := hid (fun k (hk : k < s.size) => lower_rb (bt s k) (h.all k hk))
  have HD := hid hd
  have HR := hid hr
  have hi0 := hd.lt
  have hle := hd.le
  have hii : (1 : Int) < s.size := by omega
  have hne : ¬ s = ByteArray.empty := by intro e; rw [e] at hp; simp at hp
  have hn43 : ¬ bt s 0 = 43 := by have := h.all 0 h.pos; unfold Rb at this; omega
  have HW := hid hw
  have k802 := hw.neg
  have z802 := hw.un 802
  have k803 := hw.tr
  have z803 := hw.un 803
  simp only at k802 k803
  clear h hd hr hw
  go_enter Tryz.func123, Tryz.ntmps123
  go_wp2_with fail
  have HD0 : Hid (DecAt (((w.setCell ⟨b, 802, none⟩ (.bool false)).setCell ⟨b, 803, none⟩ (.bool false)).setCell ⟨b, 802, none⟩ (.bool true)) b ⟨fun _ => 0, 0, 0, true, false⟩) := hid (((HW.out.setG false).setT false).setG true)
  have HT0 : Hid (Tn (At1 b) w (((w.setCell ⟨b, 802, none⟩ (.bool false)).setCell ⟨b, 803, none⟩ (.bool false)).setCell ⟨b, 802, none⟩ (.bool true))) := hid (At1.set (At1.set (At1.set (Tn.refl _ _) _ _) _ _) _ _)
  clear k802 z802 k803 z803
  go_loopw [5, 6, 7] (fun v5 v6 v7 wr => ∃ (j i : Nat) (D : Nat → Int) (nd : Nat) (dp : Int) (dot digs : Bool), i = 1 + j ∧ i ≤ e ∧ Hid (ssAt s 1 j = ⟨D, nd, dp, dot, digs⟩) ∧ v5 = .int .i64 (i : Int) ∧ v6 = .bool dot ∧ v7 = .bool digs ∧ Tn (At1 b) w wr ∧ DecAt wr b ⟨D, nd, dp, true, false⟩) (fun v5 _ _ _ => s.size - (intOf v5).toNat)
  case atStart => exact ⟨0, 1, _, 0, 0, false, false, rfl, by omega, hid rfl, rfl, rfl, rfl, HT0.out, HD0.out⟩
  case round =>
    obtain ⟨j, i, D, nd, dp, dot, digs, hij, hi, HRF, rfl, rfl, rfl, ht, hd⟩ := hrel
    have HT := hid ht
    have HDD := hid hd
    have hbnd := ss_bound s 1 j
    rw [HRF.out] at hbnd
    simp only at hbnd
    obtain ⟨bn1, bn2, bn3⟩ := hbnd
    have hj100 : j ≤ 100 := by omega
    have bd1 : -100 ≤ dp := by omega
    have bd2 : dp ≤ 100 := by omega
    have bn4 : nd ≤ 100 := by omega
    clear bn2 bn3
    have k1 := hd.nd
    have k2 := hd.dp
    have z800 := hd.un 800
    have z801 := hd.un 801
    simp only at k1 k2
    by_cases hlt : i < e
    · have hli : (i : Int) < (s.size : Int) := by omega
      rcases HD.out.all i (by omega) hlt with hc | ⟨hc1, hc2⟩
      · have hdot : dot = false := by
          cases hdt : dot with
          | false => rfl
          | true =>
            exact absurd hc (ss_one HD.out (by omega) hlt hij (by rw [HRF.out]; exact hdt))
        subst hdot
        have HN : Hid (ssAt s 1 (j + 1) = ⟨D, nd, (nd : Int), true, digs⟩) := hid (by rw [ssAt, HRF.out, ← hij]; simp [ssStep, hc])
        have HIJ := hid hij
        clear hij ht hd
        go_wp2_with fail
        have hd2 := HDD.out.setP (nd : Int)
        go_roundw
        case rel => exact ⟨j + 1, i + 1, _, _, _, _, _, by have := HIJ.out; omega, by omega, HN, by go_num, rfl, rfl, At1.set HT.out _ _, hd2⟩
        case measure => simp [intOf]; omega
      · have c95 : (bt s i == 95) = false := by simp only [beq_eq_false_iff_ne, ne_eq]; omega
        have c46 : (bt s i == 46) = false := by simp only [beq_eq_false_iff_ne, ne_eq]; omega
        have n46 : ¬ bt s i = 46 := by omega
        by_cases hz : bt s i = 48 ∧ nd = 0
        · obtain ⟨hz1, hz2⟩ := hz
          subst hz2
          have HN : Hid (ssAt s 1 (j + 1) = ⟨D, 0, dp - 1, dot, true⟩) := hid (by rw [ssAt, HRF.out, ← hij]; simp [ssStep, hz1])
          have HIJ := hid hij
          clear hij ht hd
          go_wp2_with fail
          have hd2 := HDD.out.setP (dp - 1)
          go_roundw
          case rel => exact ⟨j + 1, i + 1, _, _, _, _, _, by have := HIJ.out; omega, by omega, HN, by go_num, rfl, rfl, At1.set HT.out _ _, hd2⟩
          case measure => simp [intOf]; omega
        · have HN : Hid (ssAt s 1 (j + 1) = ⟨fun t => if t = nd then bt s i else D t, nd + 1, dp, dot, true⟩) := hid (by rw [ssAt, HRF.out, ← hij]; unfold ssStep; rw [if_neg n46, if_neg hz])
          have hnd8 : (nd : Int) < 800 := by omega
          have kn := hd.d nd (by omega)
          have zn := hd.un nd
          simp only at kn
          have HIJ := hid hij
          have HZ := hid hz
          obtain ⟨c, hcc⟩ : ∃ c, bt s i = c := ⟨_, rfl⟩
          clear hij ht hd
          by_cases hz1 : bt s i = 48
          · have hnd0 : ¬ nd = 0 := fun e => hz ⟨hz1, e⟩
            have hndb : ((nd : Int) == 0) = false := by simpa using hnd0
            have hzb : (bt s i == 48) = true := by simp [hz1]
            have HN := hid (show ssAt s 1 (j + 1) = ⟨fun t => if t = nd then 48 else D t, nd + 1, dp, dot, true⟩ by have := HN.out; rw [hz1] at this; exact this)
            clear hz hcc
            go_wp2_with fail
            go_region
            go_wp2_with fail
            have hd2 := ((HDD.out.setD nd (48) (by omega)).setN (nd + 1)).no ((Tn.refl No _).drew)
            rw [show ((nd + 1 : Nat) : Int) = (nd : Int) + 1 from by omega] at hd2
            go_roundw
            case rel => exact ⟨j + 1, i + 1, _, _, _, _, _, by have := HIJ.out; omega, by omega, HN, by go_num, rfl, rfl, (At1.set (At1.set HT.out _ _) _ _).drew, hd2⟩
            case measure => simp [intOf]; omega
          · have hzb : (bt s i == 48) = false := by simpa using hz1
            clear hz hcc
            go_wp2_with fail
            go_region
            go_wp2_with fail
            have hd2 := ((HDD.out.setD nd (bt s i) (by omega)).setN (nd + 1)).no ((Tn.refl No _).drew)
            rw [show ((nd + 1 : Nat) : Int) = (nd : Int) + 1 from by omega] at hd2
            go_roundw
            case rel => exact ⟨j + 1, i + 1, _, _, _, _, _, by have := HIJ.out; omega, by omega, HN, by go_num, rfl, rfl, (At1.set (At1.set HT.out _ _) _ _).drew, hd2⟩
            case measure => simp [intOf]; omega
    · have hie : i = e := by omega
      subst hie
      have hdg : digs = true := by
        have := ss_digs (s := s) (i0 := 1) HD.out.first.1 (j - 1)
        rw [show j - 1 + 1 = j by omega, HRF.out] at this
        exact this
      subst hdg
      have hre : r = ⟨D, nd, dp, dot, true⟩ := by rw [← HR.out, show i - 1 = j by omega]; exact HRF.out
      subst hre
      have hnl : ¬ (i : Int) < (s.size : Int) := by omega
      have hie2 : (i : Int) = (s.size : Int) := by omega
      have hnl2 : (s.size : Int) ≤ (i : Int) := by omega
      clear hij ht hd
      cases dot
      · go_wp2_with fail
        go_ret
        exact ⟨rfl, At1.set HT.out _ _, HDD.out.setP (nd : Int)⟩
      · go_wp2_with fail
        go_ret
        exact ⟨rfl, HT.out, HDD.out⟩
end Go.Proofs.YtcmhfeeocehlaaaGreatDoor
namespace Go.Proofs.YtcmhfeeocehlaaaGreatDoor
set_option linter.unusedSimpArgs false
set_option linter.unusedVariables false
open Go.RowKit Go.PlainAid
attribute [local go_sem ↓] Go.wp_at_zero Go.wp_at_succ

set_option maxHeartbeats 16000000 in
set_option maxRecDepth 100000 in
theorem set_plainP (s : ByteArray) (e b : Nat) (w : World) (h : Rtx s) (hd : Dgs s 0 e) (h0 : ¬ bt s 0 = 45) (r : SS) (hr : ssAt s 0 (e - 0) = r) (hw : DecAt w b ⟨fun _ => 0, 0, 0, false, false⟩) (he : e = s.size) :
    Calls Tryz.prog 123 #[.pointer (some ⟨b, 0, none⟩), .string s] w fun en w' => en = .returned (.bool true) ∧ Tn (At1 b) w w' ∧ DecAt w' b (r.ds false none) := by
  have hb := get_bt s
  have hp := h.pos
  have hsm := h.small
  have HL := hid (fun k (hk : k < s.size) => lower_rb (bt s k) (h.all k hk))
  have HD := hid hd
  have HR := hid hr
  have hi0 := hd.lt
  have hle := hd.le
  have hii : (0 : Int) < s.size := by omega
  have hne : ¬ s = ByteArray.empty := by intro e; rw [e] at hp; simp at hp
  have hn43 : ¬ bt s 0 = 43 := by have := h.all 0 h.pos; unfold Rb at this; omega
  have hb43 : (bt s 0 == 43) = false := by simpa using hn43
  have hb45 : (bt s 0 == 45) = false := by simpa using h0
  have HW := hid hw
  have k802 := hw.neg
  have z802 := hw.un 802
  have k803 := hw.tr
  have z803 := hw.un 803
  simp only at k802 k803
  clear h hd hr hw
  go_enter Tryz.func123, Tryz.ntmps123
  go_wp2_with fail
  have HD0 : Hid (DecAt ((w.setCell ⟨b, 802, none⟩ (.bool false)).setCell ⟨b, 803, none⟩ (.bool false)) b ⟨fun _ => 0, 0, 0, false, false⟩) := hid ((HW.out.setG false).setT false)
  have HT0 : Hid (Tn (At1 b) w ((w.setCell ⟨b, 802, none⟩ (.bool false)).setCell ⟨b, 803, none⟩ (.bool false))) := hid (At1.set (At1.set (Tn.refl _ _) _ _) _ _)
  clear k802 z802 k803 z803
  go_loopw [5, 6, 7] (fun v5 v6 v7 wr => ∃ (j i : Nat) (D : Nat → Int) (nd : Nat) (dp : Int) (dot digs : Bool), i = 0 + j ∧ i ≤ e ∧ Hid (ssAt s 0 j = ⟨D, nd, dp, dot, digs⟩) ∧ v5 = .int .i64 (i : Int) ∧ v6 = .bool dot ∧ v7 = .bool digs ∧ Tn (At1 b) w wr ∧ DecAt wr b ⟨D, nd, dp, false, false⟩) (fun v5 _ _ _ => s.size - (intOf v5).toNat)
  case atStart => exact ⟨0, 0, _, 0, 0, false, false, rfl, by omega, hid rfl, rfl, rfl, rfl, HT0.out, HD0.out⟩
  case round =>
    obtain ⟨j, i, D, nd, dp, dot, digs, hij, hi, HRF, rfl, rfl, rfl, ht, hd⟩ := hrel
    have HT := hid ht
    have HDD := hid hd
    have hbnd := ss_bound s 0 j
    rw [HRF.out] at hbnd
    simp only at hbnd
    obtain ⟨bn1, bn2, bn3⟩ := hbnd
    have hj100 : j ≤ 100 := by omega
    have bd1 : -100 ≤ dp := by omega
    have bd2 : dp ≤ 100 := by omega
    have bn4 : nd ≤ 100 := by omega
    clear bn2 bn3
    have k1 := hd.nd
    have k2 := hd.dp
    have z800 := hd.un 800
    have z801 := hd.un 801
    simp only at k1 k2
    by_cases hlt : i < e
    · have hli : (i : Int) < (s.size : Int) := by omega
      rcases HD.out.all i (by omega) hlt with hc | ⟨hc1, hc2⟩
      · have hdot : dot = false := by
          cases hdt : dot with
          | false => rfl
          | true =>
            exact absurd hc (ss_one HD.out (by omega) hlt hij (by rw [HRF.out]; exact hdt))
        subst hdot
        have HN : Hid (ssAt s 0 (j + 1) = ⟨D, nd, (nd : Int), true, digs⟩) := hid (by rw [ssAt, HRF.out, ← hij]; simp [ssStep, hc])
        have HIJ := hid hij
        clear hij ht hd
        go_wp2_with fail
        have hd2 := HDD.out.setP (nd : Int)
        go_roundw
        case rel => exact ⟨j + 1, i + 1, _, _, _, _, _, by have := HIJ.out; omega, by omega, HN, by go_num, rfl, rfl, At1.set HT.out _ _, hd2⟩
        case measure => simp [intOf]; omega
      · have c95 : (bt s i == 95) = false := by simp only [beq_eq_false_iff_ne, ne_eq]; omega
        have c46 : (bt s i == 46) = false := by simp only [beq_eq_false_iff_ne, ne_eq]; omega
        have n46 : ¬ bt s i = 46 := by omega
        by_cases hz : bt s i = 48 ∧ nd = 0
        · obtain ⟨hz1, hz2⟩ := hz
          subst hz2
          have HN : Hid (ssAt s 0 (j + 1) = ⟨D, 0, dp - 1, dot, true⟩) := hid (by rw [ssAt, HRF.out, ← hij]; simp [ssStep, hz1])
          have HIJ := hid hij
          clear hij ht hd
          go_wp2_with fail
          have hd2 := HDD.out.setP (dp - 1)
          go_roundw
          case rel => exact ⟨j + 1, i + 1, _, _, _, _, _, by have := HIJ.out; omega, by omega, HN, by go_num, rfl, rfl, At1.set HT.out _ _, hd2⟩
          case measure => simp [intOf]; omega
        · have HN : Hid (ssAt s 0 (j + 1) = ⟨fun t => if t = nd then bt s i else D t, nd + 1, dp, dot, true⟩) := hid (by rw [ssAt, HRF.out, ← hij]; unfold ssStep; rw [if_neg n46, if_neg hz])
          have hnd8 : (nd : Int) < 800 := by omega
          have kn := hd.d nd (by omega)
          have zn := hd.un nd
          simp only at kn
          have HIJ := hid hij
          have HZ := hid hz
          obtain ⟨c, hcc⟩ : ∃ c, bt s i = c := ⟨_, rfl⟩
          clear hij ht hd
          by_cases hz1 : bt s i = 48
          · have hnd0 : ¬ nd = 0 := fun e => hz ⟨hz1, e⟩
            have hndb : ((nd : Int) == 0) = false := by simpa using hnd0
            have hzb : (bt s i == 48) = true := by simp [hz1]
            have HN := hid (show ssAt s 0 (j + 1) = ⟨fun t => if t = nd then 48 else D t, nd + 1, dp, dot, true⟩ by have := HN.out; rw [hz1] at this; exact this)
            clear hz hcc
            go_wp2_with fail
            go_region
            go_wp2_with fail
            have hd2 := ((HDD.out.setD nd (48) (by omega)).setN (nd + 1)).no ((Tn.refl No _).drew)
            rw [show ((nd + 1 : Nat) : Int) = (nd : Int) + 1 from by omega] at hd2
            go_roundw
            case rel => exact ⟨j + 1, i + 1, _, _, _, _, _, by have := HIJ.out; omega, by omega, HN, by go_num, rfl, rfl, (At1.set (At1.set HT.out _ _) _ _).drew, hd2⟩
            case measure => simp [intOf]; omega
          · have hzb : (bt s i == 48) = false := by simpa using hz1
            clear hz hcc
            go_wp2_with fail
            go_region
            go_wp2_with fail
            have hd2 := ((HDD.out.setD nd (bt s i) (by omega)).setN (nd + 1)).no ((Tn.refl No _).drew)
            rw [show ((nd + 1 : Nat) : Int) = (nd : Int) + 1 from by omega] at hd2
            go_roundw
            case rel => exact ⟨j + 1, i + 1, _, _, _, _, _, by have := HIJ.out; omega, by omega, HN, by go_num, rfl, rfl, (At1.set (At1.set HT.out _ _) _ _).drew, hd2⟩
            case measure => simp [intOf]; omega
    · have hie : i = e := by omega
      subst hie
      have hdg : digs = true := by
        have := ss_digs (s := s) (i0 := 0) HD.out.first.1 (j - 1)
        rw [show j - 1 + 1 = j by omega, HRF.out] at this
        exact this
      subst hdg
      have hre : r = ⟨D, nd, dp, dot, true⟩ := by rw [← HR.out, show i - 0 = j by omega]; exact HRF.out
      subst hre
      have hnl : ¬ (i : Int) < (s.size : Int) := by omega
      have hie2 : (i : Int) = (s.size : Int) := by omega
      have hnl2 : (s.size : Int) ≤ (i : Int) := by omega
      clear hij ht hd
      cases dot
      · go_wp2_with fail
        go_ret
        exact ⟨rfl, At1.set HT.out _ _, HDD.out.setP (nd : Int)⟩
      · go_wp2_with fail
        go_ret
        exact ⟨rfl, HT.out, HDD.out⟩
end Go.Proofs.YtcmhfeeocehlaaaGreatDoor
