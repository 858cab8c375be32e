/-
  integer: the number that digits say, with a sign ahead perhaps.
-/
import Derived.Test.YtcmhfeeocehlaaaGreatDoorQuA
import Derived.Test.YtcmhfeeocehlaaaGreatDoorWords
namespace Go.Proofs.YtcmhfeeocehlaaaGreatDoor
set_option linter.unusedSimpArgs false
set_option linter.unusedVariables false
open Go.RowKit Go.PlainAid
attribute [local go_sem ↓] Go.wp_at_zero Go.wp_at_succ

/-- without the noughts ahead -/
def tl0 : List UInt8 → List UInt8
  | [] => []
  | c :: r => if c = 48 then tl0 r else c :: r
theorem tl0_le : ∀ l, (tl0 l).length ≤ l.length
  | [] => Nat.le_refl _
  | c :: r => by
    unfold tl0
    split
    · have := tl0_le r; simp; omega
    · exact Nat.le_refl _
theorem tl0_first : ∀ l, (tl0 l) ≠ [] → (tl0 l).getD 0 0 ≠ 48
  | [], h => absurd rfl h
  | c :: r, h => by
    unfold tl0 at h ⊢
    split
    · rename_i hc
      rw [if_pos hc] at h
      exact tl0_first r h
    · rename_i hc
      simpa using hc
theorem tl0_dval : ∀ l r, dval (tl0 l ++ r) = dval (l ++ r)
  | [], _ => rfl
  | c :: l, r => by
    unfold tl0
    split
    · rename_i hc
      rw [tl0_dval l r, hc]
      simp [dval]
    · rfl
theorem tl0_dig : ∀ l, l.all isDig = true → (tl0 l).all isDig = true
  | [], _ => rfl
  | c :: r, h => by
    unfold tl0
    split
    · simp only [List.all_cons, Bool.and_eq_true] at h
      exact tl0_dig r h.2
    · exact h
theorem strOf_size (l : List UInt8) : (strOf l).size = l.length := by simp [strOf, ByteArray.size]
def szV : Value → Nat | .string t => t.size | _ => 0

set_option maxHeartbeats 1000000 in
set_option maxRecDepth 100000 in
theorem trimByte_raw (s : ByteArray) (w : World) (hs : s.size ≤ 65536) :
    Calls Tryz.prog 93 #[.string s, .int .u8 48] w fun e w' => e = .returned (.string (strOf (tl0 s.data.toList))) ∧ w' = w := by
  obtain ⟨R, hR⟩ : ∃ R, tl0 s.data.toList = R := ⟨_, rfl⟩
  rw [hR]
  have HR := hid hR
  clear hR
  go_enter Tryz.func93, Tryz.ntmps93
  go_wp2_with fail
  go_loop [0] (fun v => ∃ t : ByteArray, v = .string t ∧ t.size ≤ 65536 ∧ Hid (tl0 t.data.toList = R)) (fun v => szV v)
  case atStart => exact ⟨s, rfl, hs, HR⟩
  case round =>
    obtain ⟨t, rfl, hts, HP⟩ := hrel
    by_cases h0 : t.size = 0
    · have ht := empty_of_size h0
      subst ht
      have hR : R = [] := HP.out.symm
      subst hR
      clear HP HR hts
      go_wp2_with fail
      go_ret
      exact ⟨rfl, rfl⟩
    · obtain ⟨c, r, hc⟩ : ∃ c r, t.data.toList = c :: r := by
        cases hd : t.data.toList with
        | nil => rw [Lib.size_eq, hd] at h0; exact absurd rfl h0
        | cons c r => exact ⟨c, r, rfl⟩
      have hb : bt t 0 = (c.toNat : Int) := by rw [bt_list, hc]; rfl
      have hg := get_bt t 0 (by omega)
      rw [hb] at hg
      have hpos : (0 : Int) < (t.size : Int) := by omega
      have h1 : (1 : Int) ≤ (t.size : Int) := by omega
      by_cases h48 : c = 48
      · have hx : (t.extract 1 t.size).data.toList = r := by rw [ext_rest, hc]; rfl
        have hxs : (t.extract 1 t.size).size = t.size - 1 := ext_size t 1
        have HP' : Hid (tl0 (t.extract 1 t.size).data.toList = R) := hid (by rw [hx, ← HP.out, hc, tl0, if_pos h48])
        rw [h48] at hg
        have hg' : ((t[0]'(by omega)).toNat : Int) = 48 := hg
        clear hg hb hc hx HP HR
        go_wp2_with fail
        exact ⟨⟨_, rfl, by omega, HP'⟩, by show (t.extract 1 t.size).size < t.size; omega⟩
      · have hR : R = t.data.toList := by rw [← HP.out, hc, tl0, if_neg h48]
        have hne : ¬ (c.toNat : Int) = 48 := fun e => h48 (by apply UInt8.toNat_inj.1; have : (48 : UInt8).toNat = 48 := rfl; omega)
        subst hR
        clear hb hc HP HR
        go_wp2_with fail
        go_ret
        exact ⟨rfl, rfl⟩
set_option maxHeartbeats 1000000 in
set_option maxRecDepth 100000 in
theorem trimLeft_raw (s : ByteArray) (w : World) (hs : s.size ≤ 65536) :
    Calls Tryz.prog 81 #[.string s, .string ⟨#[48]⟩] w fun e w' => e = .returned (.string (strOf (tl0 s.data.toList))) ∧ w' = w := by
  have HT := hid (fun w => trimByte_raw s w hs)
  by_cases h0 : s.size = 0
  · have hse := empty_of_size h0
    subst hse
    clear HT
    go_enter Tryz.func81, Tryz.ntmps81
    go_wp2_with fail
    go_ret
    exact ⟨rfl, rfl⟩
  · have hne : (s.toList == []) = false := by
      rw [beq_eq_false_iff_ne, Lib.toList_data]
      intro e
      rw [Lib.size_eq, e] at h0
      exact h0 rfl
    go_enter Tryz.func81, Tryz.ntmps81
    go_wp2_with (go_at_call 93; refine (HT.out _).mono ?_; rintro e w' ⟨rfl, rfl⟩)
    go_ret
    exact ⟨rfl, rfl⟩

theorem Tn.ofgb {a b : World} (h : a.grownBy b none) : Tn No a b := ⟨h.os, h.tape, h.output, h.size, fun k hk _ => h.block k hk (by simp)⟩
theorem allDig_of {l : List UInt8} (h : l.all isDig = true) (hn : l ≠ []) : allDig l = true := by
  unfold allDig
  rw [h]
  cases l with
  | nil => exact absurd rfl hn
  | cons _ _ => rfl
theorem isDig_lt {c : UInt8} (h : isDig c = true) : 48 ≤ c.toNat ∧ c.toNat ≤ 57 := by simpa [isDig] using h
theorem parse_dig (t : ByteArray) (w : World) (ht : t.size ≤ 65536) (hd : t.data.toList.all isDig = true) (hn : t.data.toList ≠ []) (hz : t.data.toList.getD 0 0 ≠ 48 ∨ t.data.toList = [48]) :
    Calls Tryz.prog 82 #[.string t] w (ParseYes w (dval t.data.toList : Int) t.size) := by
  obtain ⟨c, r, hc⟩ : ∃ c r, t.data.toList = c :: r := by
    cases hl : t.data.toList with
    | nil => exact absurd hl hn
    | cons c r => exact ⟨c, r, rfl⟩
  have hcd : isDig c = true := by rw [hc] at hd; simp only [List.all_cons, Bool.and_eq_true] at hd; exact hd.1
  have h0 : 0 < t.size := by rw [Lib.size_eq, hc]; simp
  have hm : t.size ≤ maxLen := by unfold maxLen; omega
  have hcut := fun w => cut_no t w hm (by
    rw [hc]
    simp only [List.take_succ_cons, List.take_zero, beq_eq_false_iff_ne, ne_eq, List.cons.injEq, and_true]
    intro e
    have := isDig_lt hcd
    rw [e] at this
    have h126 : (126 : UInt8).toNat = 126 := rfl
    omega)
  have hb : ((t[0].toNat : Int)) = (c.toNat : Int) := by
    have := get_bt t 0 h0
    rw [this, bt_list, hc]
    rfl
  have had := allDig_of hd hn
  rcases hz with hz | hz
  · have := parse_yes1 t t false w (by omega) hcut had h0 (by
      rw [hb, beq_eq_false_iff_ne]
      intro e
      apply hz
      rw [hc, List.getD_cons_zero]
      apply UInt8.toNat_inj.1
      have h48 : (48 : UInt8).toNat = 48 := rfl
      omega)
    simpa using this
  · have := parse_yes2 t t false w (by omega) hcut had h0 (by
      rw [hb]
      rw [hz] at hc
      cases hc
      rfl) (by rw [Lib.toList_data, hz]; rfl)
    simpa using this

/-- what integer answers -/
def NPost (w : World) (z : Int) (e : Ending) (w' : World) : Prop := Tn No w w' ∧ ∃ ng sa sn sc, e = .returned (.agg #[.bool ng, .slice sa sn sc]) ∧ NumAt w' w.heap.size ng (.slice sa sn sc) z

set_option maxHeartbeats 2000000 in
set_option maxRecDepth 100000 in
theorem integer_raw (s d : ByteArray) (ng : Bool) (w : World) (hs : s.size ≤ 65536) (hds : d.size ≤ 65536) (hcut : ∀ w, Calls Tryz.prog 80 #[.string s, .string ⟨#[126]⟩] w fun e w' => e = .returned (.tuple #[.string d, .bool ng]) ∧ w' = w)
    (hd : d.data.toList.all isDig = true) (h0 : 0 < d.size) : Calls Tryz.prog 72 #[.string s] w (NPost w (if ng = true then -(dval d.data.toList : Int) else (dval d.data.toList : Int))) := by
  obtain ⟨m, hm⟩ : ∃ m, d.size = m + 1 := ⟨d.size - 1, by omega⟩
  have hA : (d.extract 0 m).data.toList = d.data.toList.take m := by rw [ext_list, List.drop_zero]
  have hB : (d.extract m (m + 1)).data.toList = d.data.toList.drop m := by rw [← hm, ext_rest]
  have hAs : (d.extract 0 m).size ≤ 65536 := by rw [ext_size2 d 0 m (by omega)]; omega
  obtain ⟨t, ht⟩ : ∃ t, strOf (tl0 (d.extract 0 m).data.toList) ++ d.extract m (m + 1) = t := ⟨_, rfl⟩
  have htl : t.data.toList = tl0 (d.data.toList.take m) ++ d.data.toList.drop m := by
    rw [← ht, ByteArray.data_append, Array.toList_append, hA, hB]
    rfl
  have hdl : (d.data.toList.drop m).length = 1 := by rw [List.length_drop, ← Lib.size_eq]; omega
  obtain ⟨x, hx⟩ := List.length_eq_one_iff.1 hdl
  have hsp : d.data.toList = d.data.toList.take m ++ [x] := by rw [← hx, List.take_append_drop]
  have hdd := hd
  rw [hsp, List.all_append, Bool.and_eq_true] at hdd
  have hval : dval t.data.toList = dval d.data.toList := by rw [htl, tl0_dval, List.take_append_drop]
  have htd : t.data.toList.all isDig = true := by rw [htl, hx, List.all_append, Bool.and_eq_true]; exact ⟨tl0_dig _ hdd.1, hdd.2⟩
  have hts : t.size ≤ 65536 := by
    rw [Lib.size_eq, htl, List.length_append, hdl]
    have := tl0_le (d.data.toList.take m)
    rw [List.length_take, ← Lib.size_eq] at this
    omega
  have hpz := fun w => parse_dig t w hts htd (by rw [htl, hx]; simp) (by
    rw [htl, hx]
    cases hq : tl0 (d.data.toList.take m) with
    | nil =>
      by_cases h48 : x = 48
      · right; rw [h48]; rfl
      · left; simpa using h48
    | cons c r =>
      left
      have := tl0_first (d.data.toList.take m) (by rw [hq]; simp)
      rw [hq] at this
      simpa using this)
  rw [hval] at hpz
  have hAz : (strOf (tl0 (d.extract 0 m).data.toList)).size ≤ 65536 := by
    have h1 := tl0_le (d.extract 0 m).data.toList
    rw [← Lib.size_eq] at h1
    rw [strOf_size]
    omega
  have htr := fun w => trimLeft_raw (d.extract 0 m) w hAs
  obtain ⟨A, hA'⟩ : ∃ A, strOf (tl0 (d.extract 0 m).data.toList) = A := ⟨_, rfl⟩
  rw [hA'] at htr ht hAz
  rw [← ht] at hpz
  have HC := hid hcut
  have HTR := hid htr
  have HP := hid hpz
  obtain ⟨Z, hZ⟩ : ∃ Z : Int, (dval d.data.toList : Int) = Z := ⟨_, rfl⟩
  rw [hZ] at HP ⊢
  have hBs : (d.extract m (m + 1)).size = 1 := by rw [ext_size2 d m (m + 1) (by omega)]; omega
  clear hcut hpz hts htd hval hdd hsp hx hdl htl hAs hA hB hd hZ h0 htr hA'
  clear ht
  cases ng with
  | false =>
    rw [if_neg (by simp)]
    go_enter Tryz.func72, Tryz.ntmps72
    go_wp2_with (first
      | (go_at_call 80; refine (HC.out _).mono ?_; rintro e w' ⟨rfl, rfl⟩)
      | (go_at_call 81; refine (HTR.out _).mono ?_; rintro e w' ⟨rfl, rfl⟩)
      | (go_at_call 82; refine (HP.out _).mono ?_; rintro e w1 ⟨s1, a1, l1, rfl, ho1, hn1, hs1, hi1, hk1, hg1⟩; have HO1 := hid ho1; have HI1 := hid hi1; have ht1 := Tn.ofgb hg1; clear hg1 hi1 ho1; obtain ⟨k2, f2, hz2⟩ := one_block ht1; have k20 := k2 0; have k21 := k2 1; simp at k20 k21; have HT1 := hid ht1; have hzA := Nat.lt_of_lt_of_le (Nat.lt_succ_self _) hz2; clear k2 ht1))
    refine bodyPost_ret (v := .agg #[.bool s1, .slice a1 l1.length l1.length]) (by obtain ⟨q0, q1⟩ := set2_cells (u0 := .bool s1) (u1 := .slice a1 l1.length l1.length) k20 k21; simp [results, Tryz.results72, go_sem, q0, q1, hzA]) rfl ?_
    refine ⟨(set2_tn HT1.out).alloc _, _, _, _, _, rfl, a1, l1, rfl, ?_, hn1, hs1, HI1.out⟩
    refine (HO1.out.blocks (w' := ((w1.setCell ⟨w.heap.size, 0, none⟩ (.bool s1)).setCell ⟨w.heap.size, 1, none⟩ (.slice a1 l1.length l1.length)).alloc (.cells #[.bool s1, .slice a1 l1.length l1.length] 35)) (by simp) (fun b hb hb2 => ?_)).mono (by simp)
    have hb' : w.heap.size + 1 ≤ b := by simpa using hb
    rw [Below.heap_alloc _ _ _ (by simpa using hb2), Below.heap_setCell _ _ _ _ (by show b ≠ w.heap.size; omega), Below.heap_setCell _ _ _ _ (by show b ≠ w.heap.size; omega)]
  | true =>
    rw [if_pos rfl]
    go_enter Tryz.func72, Tryz.ntmps72
    go_wp2_with (first
      | (go_at_call 80; refine (HC.out _).mono ?_; rintro e w' ⟨rfl, rfl⟩)
      | (go_at_call 81; refine (HTR.out _).mono ?_; rintro e w' ⟨rfl, rfl⟩)
      | (go_at_call 82; refine (HP.out _).mono ?_; rintro e w1 ⟨s1, a1, l1, rfl, ho1, hn1, hs1, hi1, hk1, hg1⟩; have HO1 := hid ho1; have HI1 := hid hi1; have ht1 := Tn.ofgb hg1; clear hg1 hi1 ho1; obtain ⟨k2, f2, hz2⟩ := one_block ht1; have k20 := k2 0; have k21 := k2 1; simp at k20 k21; have HT1 := hid ht1; have hzA := Nat.lt_of_lt_of_le (Nat.lt_succ_self _) hz2; clear k2 ht1)
      | (go_at_call 83; refine (neg_raw s1 a1 _ _ l1 _ (HO1.out.sl.grown (Tn.no ((Tn.refl No w1).alloc _)))).mono ?_; rintro e w2 ⟨s2, a2, l2, rfl, ho2, hn2, hs2, hi2, hk2, hnl2, hg2⟩; have HO2 := hid ho2; have HI2 := hid hi2; have ht2 := (HT1.out.alloc _).thenNo (Tn.ofgb hg2); clear hg2 hi2 ho2; obtain ⟨k3, f3, hz3⟩ := one_block ht2; have k30 := k3 0; have k31 := k3 1; simp at k30 k31; have HT2 := hid ht2; clear k3 ht2))
    refine bodyPost_ret (v := .agg #[.bool s2, .slice a2 l2.length l2.length]) (by obtain ⟨q0, q1⟩ := set2_cells (u0 := .bool s2) (u1 := .slice a2 l2.length l2.length) k30 k31; simp [results, Tryz.results72, go_sem, q0, q1]) rfl ?_
    refine ⟨set2_tn HT2.out, _, _, _, _, rfl, a2, l2, rfl, ?_, hn2, hs2, by rw [HI2.out, HI1.out]⟩
    refine (HO2.out.blocks (w' := (w2.setCell ⟨w.heap.size, 0, none⟩ (.bool s2)).setCell ⟨w.heap.size, 1, none⟩ (.slice a2 l2.length l2.length)) (by simp) (fun b hb hb2 => ?_)).mono (by simp; omega)
    have hb' : w1.heap.size + 1 ≤ b := by simpa using hb
    rw [Below.heap_setCell _ _ _ _ (by show b ≠ w.heap.size; omega), Below.heap_setCell _ _ _ _ (by show b ≠ w.heap.size; omega)]
end Go.Proofs.YtcmhfeeocehlaaaGreatDoor
namespace Go.Proofs.YtcmhfeeocehlaaaGreatDoor
set_option linter.unusedSimpArgs false
set_option linter.unusedVariables false
open Go.RowKit Go.PlainAid
attribute [local go_sem ↓] Go.wp_at_zero Go.wp_at_succ

theorem cast1 (a : Nat) : ((a + 1 : Nat) : Int) = (a : Int) + 1 := by omega
theorem cast11 (a : Nat) : ((a + 2 : Nat) : Int) = (a : Int) + 1 + 1 := by omega
set_option maxHeartbeats 1000000 in
set_option maxRecDepth 100000 in
theorem frac_raw (s : ByteArray) (a : Nat) (w : World) (hs : s.size ≤ 65536) (ha : a ≤ s.size) :
    Calls Tryz.prog 57 #[.string s, .int .i64 (a : Int)] w fun e w' => e = .returned (.int .i64 (frac s a : Int)) ∧ w' = w := by
  have HB1 := hid (fun w => byteAt_raw s a w (by omega))
  have HB2 := hid (fun w => byteAt_raw s (a + 1) w (by omega))
  have HL := hid (fun w => digit_raw (bt s (a + 1)) w (bt_nonneg s _) (bt_le s _))
  rw [cast1] at HB2
  unfold frac
  by_cases h1 : bt s a = 46
  · rw [h1] at HB1
    cases hv : isD (bt s (a + 1)) with
    | true =>
      rw [if_pos ⟨h1, rfl⟩]
      have hlt := lt_of_p isD_0 hv
      have HN := hid (fun w => behind_digits s (a + 1) w (by omega) (by omega))
      rw [cast1] at HN
      rw [hv] at HL
      clear h1 hv
      go_enter Tryz.func57, Tryz.ntmps57
      go_wp2_with (first
        | (go_at_call 25; first | (refine (HB1.out _).mono ?_; rintro e w' ⟨rfl, rfl⟩; clear HB1) | (refine (HB2.out _).mono ?_; rintro e w' ⟨rfl, rfl⟩))
        | (go_at_call 28; refine (HL.out _).mono ?_; rintro e w' ⟨rfl, rfl⟩)
        | (go_at_call 53; refine (HN.out _).mono ?_; rintro e w' ⟨rfl, rfl⟩))
      go_ret
      exact ⟨rfl, rfl⟩
    | false =>
      rw [if_neg (by simp)]
      rw [hv] at HL
      clear h1 hv
      go_enter Tryz.func57, Tryz.ntmps57
      go_wp2_with (first
        | (go_at_call 25; first | (refine (HB1.out _).mono ?_; rintro e w' ⟨rfl, rfl⟩; clear HB1) | (refine (HB2.out _).mono ?_; rintro e w' ⟨rfl, rfl⟩))
        | (go_at_call 28; refine (HL.out _).mono ?_; rintro e w' ⟨rfl, rfl⟩))
      go_ret
      exact ⟨rfl, rfl⟩
  · rw [if_neg (fun h => h1 h.1)]
    clear HB2 HL
    go_enter Tryz.func57, Tryz.ntmps57
    go_wp2_with (go_at_call 25; refine (HB1.out _).mono ?_; rintro e w' ⟨rfl, rfl⟩)
    go_ret
    exact ⟨rfl, rfl⟩

set_option maxHeartbeats 1000000 in
set_option maxRecDepth 100000 in
theorem expo_raw (s : ByteArray) (a : Nat) (w : World) (hs : s.size ≤ 65536) (ha : a ≤ s.size) :
    Calls Tryz.prog 56 #[.string s, .int .i64 (a : Int)] w fun e w' => e = .returned (.int .i64 (expo s a : Int)) ∧ w' = w := by
  have HB1 := hid (fun w => byteAt_raw s a w (by omega))
  have HB2 := hid (fun w => byteAt_raw s (a + 1) w (by omega))
  rw [cast1] at HB2
  unfold expo
  by_cases h1 : bt s a = 101
  · rw [h1] at HB1
    by_cases h2 : bt s (a + 1) = 126
    · have hx : exD s a = a + 2 := by unfold exD; rw [if_pos h2]
      rw [hx]
      rw [h2] at HB2
      have HB3 := hid (fun w => byteAt_raw s (a + 2) w (by omega))
      have HL := hid (fun w => digit_raw (bt s (a + 2)) w (bt_nonneg s _) (bt_le s _))
      rw [cast11] at HB3
      cases hv : isD (bt s (a + 2)) with
      | true =>
        rw [if_pos ⟨h1, rfl⟩]
        have hlt := lt_of_p isD_0 hv
        have HN := hid (fun w => behind_digits s (a + 2) w (by omega) (by omega))
        rw [cast11] at HN
        rw [hv] at HL
        clear h1 h2 hv hx
        go_enter Tryz.func56, Tryz.ntmps56
        go_wp2_with (first
          | (go_at_call 25; first | (refine (HB1.out _).mono ?_; rintro e w' ⟨rfl, rfl⟩; clear HB1) | (refine (HB2.out _).mono ?_; rintro e w' ⟨rfl, rfl⟩; clear HB2) | (refine (HB3.out _).mono ?_; rintro e w' ⟨rfl, rfl⟩))
          | (go_at_call 28; refine (HL.out _).mono ?_; rintro e w' ⟨rfl, rfl⟩)
          | (go_at_call 53; refine (HN.out _).mono ?_; rintro e w' ⟨rfl, rfl⟩))
        go_ret
        exact ⟨rfl, rfl⟩
      | false =>
        rw [if_neg (by simp)]
        rw [hv] at HL
        clear h1 h2 hv hx
        go_enter Tryz.func56, Tryz.ntmps56
        go_wp2_with (first
          | (go_at_call 25; first | (refine (HB1.out _).mono ?_; rintro e w' ⟨rfl, rfl⟩; clear HB1) | (refine (HB2.out _).mono ?_; rintro e w' ⟨rfl, rfl⟩; clear HB2) | (refine (HB3.out _).mono ?_; rintro e w' ⟨rfl, rfl⟩))
          | (go_at_call 28; refine (HL.out _).mono ?_; rintro e w' ⟨rfl, rfl⟩))
        go_ret
        exact ⟨rfl, rfl⟩
    · have hx : exD s a = a + 1 := by unfold exD; rw [if_neg h2]
      rw [hx]
      have HL := hid (fun w => digit_raw (bt s (a + 1)) w (bt_nonneg s _) (bt_le s _))
      cases hv : isD (bt s (a + 1)) with
      | true =>
        rw [if_pos ⟨h1, rfl⟩]
        have hlt := lt_of_p isD_0 hv
        have HN := hid (fun w => behind_digits s (a + 1) w (by omega) (by omega))
        rw [cast1] at HN
        rw [hv] at HL
        clear h1 hv hx
        go_enter Tryz.func56, Tryz.ntmps56
        go_wp2_with (first
          | (go_at_call 25; first | (refine (HB1.out _).mono ?_; rintro e w' ⟨rfl, rfl⟩; clear HB1) | (refine (HB2.out _).mono ?_; rintro e w' ⟨rfl, rfl⟩))
          | (go_at_call 28; refine (HL.out _).mono ?_; rintro e w' ⟨rfl, rfl⟩)
          | (go_at_call 53; refine (HN.out _).mono ?_; rintro e w' ⟨rfl, rfl⟩))
        go_ret
        exact ⟨rfl, rfl⟩
      | false =>
        rw [if_neg (by simp)]
        rw [hv] at HL
        clear h1 hv hx
        go_enter Tryz.func56, Tryz.ntmps56
        go_wp2_with (first
          | (go_at_call 25; first | (refine (HB1.out _).mono ?_; rintro e w' ⟨rfl, rfl⟩; clear HB1) | (refine (HB2.out _).mono ?_; rintro e w' ⟨rfl, rfl⟩))
          | (go_at_call 28; refine (HL.out _).mono ?_; rintro e w' ⟨rfl, rfl⟩))
        go_ret
        exact ⟨rfl, rfl⟩
  · rw [if_neg (fun h => h1 h.1)]
    have hne : (bt s a != 101) = true := by simpa using h1
    clear HB2
    go_enter Tryz.func56, Tryz.ntmps56
    go_wp2_with (go_at_call 25; refine (HB1.out _).mono ?_; rintro e w' ⟨rfl, rfl⟩)
    go_ret
    exact ⟨rfl, rfl⟩
end Go.Proofs.YtcmhfeeocehlaaaGreatDoor
namespace Go.Proofs.YtcmhfeeocehlaaaGreatDoor
set_option linter.unusedSimpArgs false
set_option linter.unusedVariables false
open Go.RowKit Go.PlainAid
attribute [local go_sem ↓] Go.wp_at_zero Go.wp_at_succ

theorem dcv_eq (l : List UInt8) : dcv l = dval l := rfl
/-- the number z stands in the text x -/
def DW (x : ByteArray) (z : Int) : Prop := ∀ w, Calls Tryz.prog 72 #[.string x] w (NPost w z)
theorem dw_of (x : ByteArray) (D : List UInt8) (hx : x.size ≤ 65536) (hD : D.all isDig = true) (hn : D ≠ []) (hl : x.data.toList = D ∨ x.data.toList = 126 :: D) : DW x (zof x.data.toList) := by
  intro w
  have hm : x.size ≤ maxLen := by unfold maxLen; omega
  rcases hl with hl | hl
  · obtain ⟨c, r, rfl⟩ : ∃ c r, D = c :: r := by
      cases D with
      | nil => exact absurd rfl hn
      | cons c r => exact ⟨c, r, rfl⟩
    have hc : isDig c = true := by simp only [List.all_cons, Bool.and_eq_true] at hD; exact hD.1
    have hne : ¬ c = 126 := fun e => by
      have := isDig_lt hc
      rw [e] at this
      have h126 : (126 : UInt8).toNat = 126 := rfl
      omega
    have := integer_raw x x false w hx hx (fun w => cut_no x w hm (by rw [hl]; simpa using hne)) (by rw [hl]; exact hD) (by rw [Lib.size_eq, hl]; simp)
    rw [if_neg (by simp)] at this
    have hz : zof x.data.toList = (dval x.data.toList : Int) := by
      rw [hl]
      unfold zof
      split
      · rename_i heq; cases heq; exact absurd rfl hne
      · rfl
    rw [hz]
    exact this
  · have hd : (x.extract 1 x.size).data.toList = D := by rw [ext_rest, hl]; rfl
    have hds := ext_size x 1
    have := integer_raw x (x.extract 1 x.size) true w hx (by omega) (fun w => cut_yes x w hm (by rw [hl]; rfl)) (by rw [hd]; exact hD) (by
      rw [Lib.size_eq, hd]
      cases D with
      | nil => exact absurd rfl hn
      | cons _ _ => simp)
    rw [if_pos rfl, hd] at this
    rw [hl]
    exact this

theorem set23 {w2 w3 : World} {g : Nat} {x y : Value} (h : (w2.setCell ⟨g, 2, none⟩ x).setCell ⟨g, 3, none⟩ y = w3) (h2 : (w2.cell? ⟨g, 2, none⟩).isSome = true) (h3 : (w2.cell? ⟨g, 3, none⟩).isSome = true) :
    w3.cell? ⟨g, 2, none⟩ = some x ∧ w3.cell? ⟨g, 3, none⟩ = some y ∧ (∀ b i, b ≠ g ∨ (i ≠ 2 ∧ i ≠ 3) → w3.cell? ⟨b, i, none⟩ = w2.cell? ⟨b, i, none⟩) ∧ (∀ b i, w3.frozen? ⟨b, i, none⟩ = w2.frozen? ⟨b, i, none⟩) ∧ w3.heap.size = w2.heap.size ∧ (∀ k, k ≠ g → w3.heap[k]? = w2.heap[k]?) := by
  subst h
  refine ⟨?_, ?_, fun b i hb => ?_, fun b i => ?_, by simp, fun k hk => ?_⟩
  · rw [cell_set_ne (by omega)]; exact set_same h2
  · exact set_same (by rw [cell_set_ne (by omega)]; exact h3)
  · rw [cell_set_ne (by omega), cell_set_ne (by omega)]
  · rw [World.frozen?_setCell, World.frozen?_setCell]
  · rw [Below.heap_setCell _ _ _ _ hk, Below.heap_setCell _ _ _ _ hk]

set_option maxHeartbeats 4000000 in
set_option maxRecDepth 100000 in
theorem integerAt_raw (s : ByteArray) (a e : Nat) (z : Int) (w : World) (hs : s.size ≤ 65536) (ha : a ≤ e) (he : e ≤ s.size) (hz : DW (s.extract a e) z) :
    Calls Tryz.prog 58 #[.string s, .int .i64 (a : Int), .int .i64 (e : Int)] w (WPost w (if 2000 < e - a then .bad 32 a else .ok ⟨4, s.extract a e, z, 0, 0, a⟩ e)) := by
  have HC := hid (fun w => limited_raw 4 s a e 2000 w hs ha he (by omega))
  by_cases hb : 2000 < e - a
  · rw [if_pos hb]
    have hl : limd 4 s a e 2000 = .bad 32 a := by unfold limd; rw [if_pos hb]
    rw [hl] at HC
    clear hl hb hz
    go_enter Tryz.func58, Tryz.ntmps58
    go_wp2_with (go_at_call 55; refine (HC.out _).mono ?_; rintro e w1 ⟨ht, k1, x1, ng1, sa1, sn1, sc1, b1, n1, p1, en1, c1, pp1, rfl, rfl, rfl, rfl, hsl, rfl, rfl, rfl, rfl, rfl, rfl⟩; cases hsl; simp only [tkV, msV]; obtain ⟨⟨k1, f1⟩, ⟨k2, f2⟩, s1, s2, hz⟩ := two_blocks ht; have HS1 := hid (fun i (hi : i < 7) => s1 i hi); have HS2 := hid (fun i (hi : i < 2) => s2 i hi); clear s1 s2; have k10 := k1 0; have k11 := k1 1; have k12 := k1 2; have k13 := k1 3; have k14 := k1 4; have k15 := k1 5; have k16 := k1 6; have k20 := k2 0; have k21 := k2 1; simp at k10 k11 k12 k13 k14 k15 k16 k20 k21; clear k1 k2; have HT := hid ht; clear ht; have hzA := Nat.lt_of_lt_of_le (Nat.lt_add_of_pos_right (by decide : 0 < 2)) hz; have hzB := Nat.lt_of_lt_of_le (Nat.add_lt_add_left (by decide : 1 < 2) _) hz)
    go_region
    all_goals go_wp2_with fail
    change bodyPost _ _ _ _ _ (((((put9 w1 w.heap.size (w.heap.size + 1) _ _ _ _ _ _ _ _ _)).alloc _).alloc _).drew); refine put9_all (fun W => bodyPost _ _ _ _ _ ((((W).alloc _).alloc _).drew)) (by omega) HS1.out HS2.out ?_; rintro W ⟨q0, q1, q2, q3, q4, q5, q6, r0, r1⟩ hoth hsz htn; have HTN := hid (htn w (Tn.thenNo (((Tn.refl No w).alloc _).alloc _) HT.out) (by omega) (by omega)); clear htn; have hgA : w.heap.size < W.heap.size := (by omega); have hgB : w.heap.size + 1 < W.heap.size := (by omega); refine bodyPost_ret (v := .tuple #[noTk, .int .i64 0, msV 32 (a : Int)]) (by simp [results, Tryz.results58, go_sem, tkV, noTk, msV, q0, q1, q2, q3, q4, q5, q6, r0, r1, hgA, hgB]) rfl ?_
    exact ⟨((HTN.out.alloc _).alloc _).drew, _, _, _, _, _, _, _, _, _, _, _, _, rfl, rfl, rfl, rfl, rfl, rfl, rfl, rfl, rfl, rfl, rfl⟩
  · rw [if_neg hb]
    have hl : limd 4 s a e 2000 = stands 4 s a e := by unfold limd; rw [if_neg hb]
    rw [hl] at HC
    have HZ := hid hz
    clear hl hb hz
    go_enter Tryz.func58, Tryz.ntmps58
    go_wp2_with (first
      | (go_at_call 55; refine (HC.out _).mono ?_; rintro e w1 ⟨ht, k1, x1, ng1, sa1, sn1, sc1, b1, n1, p1, en1, c1, pp1, rfl, rfl, rfl, rfl, rfl, rfl, rfl, rfl, rfl, hN⟩; have HN1 := hid hN; clear hN; simp only [tkV, msV]; obtain ⟨⟨k1, f1⟩, ⟨k2, f2⟩, s1, s2, hz⟩ := two_blocks ht; have HS1 := hid (fun i (hi : i < 7) => s1 i hi); have HS2 := hid (fun i (hi : i < 2) => s2 i hi); clear s1 s2; have k10 := k1 0; have k11 := k1 1; have k12 := k1 2; have k13 := k1 3; have k14 := k1 4; have k15 := k1 5; have k16 := k1 6; have k20 := k2 0; have k21 := k2 1; simp at k10 k11 k12 k13 k14 k15 k16 k20 k21; clear k1 k2; have HT := hid ht; clear ht; have hzA := Nat.lt_of_lt_of_le (Nat.lt_add_of_pos_right (by decide : 0 < 2)) hz; have hzB := Nat.lt_of_lt_of_le (Nat.add_lt_add_left (by decide : 1 < 2) _) hz)
      | (go_at_call 72; refine (HZ.out _).mono ?_; rintro e w2 ⟨ht2, ng2, sa2, sn2, sc2, rfl, hN⟩; have HN2 := hid hN; clear hN; have ht3 := ((HT.out.alloc _).alloc _).thenNo ht2; obtain ⟨⟨k1b, f1b⟩, ⟨k2b, f2b⟩, s1b, s2b, hzb⟩ := two_blocks ht2; have HS1b := hid (fun i (hi : i < 7) => s1b i hi); have HS2b := hid (fun i (hi : i < 2) => s2b i hi); clear s1b s2b; have k10b := k1b 0; have k11b := k1b 1; have k12b := k1b 2; have k13b := k1b 3; have k14b := k1b 4; have k15b := k1b 5; have k16b := k1b 6; have k20b := k2b 0; have k21b := k2b 1; simp at k10b k11b k12b k13b k14b k15b k16b k20b k21b; clear k1b k2b; have HTb := hid ht2; clear ht2; have hzAb := Nat.lt_of_lt_of_le (Nat.lt_add_of_pos_right (by decide : 0 < 2)) hzb; have hzBb := Nat.lt_of_lt_of_le (Nat.add_lt_add_left (by decide : 1 < 2) _) hzb; obtain ⟨⟨k1c, f1c⟩, ⟨k2c, f2c⟩, s1c, s2c, hzc⟩ := two_blocks ht3; have HS1c := hid (fun i (hi : i < 7) => s1c i hi); have HS2c := hid (fun i (hi : i < 2) => s2c i hi); clear s1c s2c; have k10c := k1c 0; have k11c := k1c 1; have k12c := k1c 2; have k13c := k1c 3; have k14c := k1c 4; have k15c := k1c 5; have k16c := k1c 6; have k20c := k2c 0; have k21c := k2c 1; simp at k10c k11c k12c k13c k14c k15c k16c k20c k21c; clear k1c k2c; have HTc := hid ht3; clear ht3; have hzAc := Nat.lt_of_lt_of_le (Nat.lt_add_of_pos_right (by decide : 0 < 2)) hzc; have hzBc := Nat.lt_of_lt_of_le (Nat.add_lt_add_left (by decide : 1 < 2) _) hzc))
    obtain ⟨w3, h3⟩ : ∃ w3, (w2.setCell ⟨w1.heap.size, 2, none⟩ (.bool ng2)).setCell ⟨w1.heap.size, 3, none⟩ (.slice sa2 sn2 sc2) = w3 := ⟨_, rfl⟩
    rw [h3]
    obtain ⟨g2, g3, go, gf, gz, gh⟩ := set23 h3 (by rw [k12b]; rfl) (by rw [k13b]; rfl)
    have hgh : ∀ k, k ≠ w1.heap.size → w3.heap[k]? = w2.heap[k]? := gh
    have m0 := (go w1.heap.size 0 (by omega)).trans k10b
    have m1 := (go w1.heap.size 1 (by omega)).trans k11b
    have m4 := (go w1.heap.size 4 (by omega)).trans k14b
    have m5 := (go w1.heap.size 5 (by omega)).trans k15b
    have m6 := (go w1.heap.size 6 (by omega)).trans k16b
    have m7 := (go (w1.heap.size + 1) 0 (by omega)).trans k20b
    have m8 := (go (w1.heap.size + 1) 1 (by omega)).trans k21b
    have e0 := (go w.heap.size 0 (by omega)).trans k10c
    have e1 := (go w.heap.size 1 (by omega)).trans k11c
    have e2 := (go w.heap.size 2 (by omega)).trans k12c
    have e3 := (go w.heap.size 3 (by omega)).trans k13c
    have e4 := (go w.heap.size 4 (by omega)).trans k14c
    have e5 := (go w.heap.size 5 (by omega)).trans k15c
    have e6 := (go w.heap.size 6 (by omega)).trans k16c
    have e7 := (go (w.heap.size + 1) 0 (by omega)).trans k20c
    have e8 := (go (w.heap.size + 1) 1 (by omega)).trans k21c
    have f3 : ∀ i, w3.frozen? ⟨w.heap.size, i, none⟩ = false := fun i => (gf _ _).trans (f1c i)
    have f4 : ∀ i, w3.frozen? ⟨w.heap.size + 1, i, none⟩ = false := fun i => (gf _ _).trans (f2c i)
    have HTW : Hid (Tn No w w3) := hid (by rw [← h3]; exact ((Tn.thenNo (((Tn.refl No w).alloc _).alloc _) HTc.out).set _ _ (by intro h; simp at h; omega)).set _ _ (by intro h; simp at h; omega))
    have HSA : Hid (∀ i, i < 7 → (w3.cell? ⟨w.heap.size, i, none⟩).isSome = true) := hid (fun i hi => by rw [go w.heap.size i (by omega)]; exact HS1c.out i hi)
    have HSB : Hid (∀ i, i < 2 → (w3.cell? ⟨w.heap.size + 1, i, none⟩).isSome = true) := hid (fun i hi => by rw [go (w.heap.size + 1) i (by omega)]; exact HS2c.out i hi)
    have HNW : Hid (NumAt w3 (w.heap.size + 2) ng2 (.slice sa2 sn2 sc2) z) := hid (by
      refine (HN2.out.blocks (by omega) (fun b hb _ => gh b ?_)).mono (by simp; omega)
      have hb' : w1.heap.size + 1 + 1 ≤ b := by simpa using hb
      omega)
    clear k10 k11 k12 k13 k14 k15 k16 k20 k21 k10b k11b k12b k13b k14b k15b k16b k20b k21b k10c k11c k12c k13c k14c k15c k16c k20c k21c f1 f2 f1b f2b f1c f2c HS1 HS2 HS1b HS2b HS1c HS2c HT HTb HTc HN1 HN2 go gf gh
    have hzW : w.heap.size + 2 ≤ w3.heap.size := by omega
    clear h3
    go_region
    all_goals go_wp2_with fail
    change bodyPost _ _ _ _ _ (((put9 w3 w.heap.size (w.heap.size + 1) _ _ _ _ _ _ _ _ _)).drew); refine put9_all (fun W => bodyPost _ _ _ _ _ ((W).drew)) (by omega) HSA.out HSB.out ?_; rintro W ⟨q0, q1, q2, q3, q4, q5, q6, r0, r1⟩ hoth hsz htn; have HTN := hid (htn w HTW.out (by omega) (by omega)); clear htn; have hgA : w.heap.size < W.heap.size := (by omega); have hgB : w.heap.size + 1 < W.heap.size := (by omega); refine bodyPost_ret (v := .tuple #[tkV 4 (s.extract a e) ng2 (.slice sa2 sn2 sc2) 0 0 (a : Int), .int .i64 (e : Int), msV 0 0]) (by simp [results, Tryz.results58, go_sem, tkV, noTk, msV, q0, q1, q2, q3, q4, q5, q6, r0, r1, hgA, hgB]) rfl ?_
    exact ⟨HTN.out.drew, _, _, _, _, _, _, _, _, _, _, _, _, rfl, rfl, rfl, rfl, rfl, rfl, rfl, rfl, rfl, (HNW.out.blocks (w' := W.drew) (by show w3.heap.size ≤ W.heap.size; omega) (fun b hb _ => hoth b (by omega) (by omega))).mono (by omega)⟩
/-- the bits b of the real that the text x says -/
def RBW (w0 : World) (x : ByteArray) (b : Int) : Prop := ∀ w, Tn No w0 w → Calls Tryz.prog 73 #[.string x] w fun e w' => e = .returned (.int .u64 b) ∧ Tn No w w'
theorem RBW.no {w u : World} {x : ByteArray} {b : Int} (h : RBW w x b) (t : Tn No w u) : RBW u x b := fun v tv => h v (t.then tv)
theorem set4 {w2 w3 : World} {g : Nat} {x : Value} (h : w2.setCell ⟨g, 4, none⟩ x = w3) (h2 : (w2.cell? ⟨g, 4, none⟩).isSome = true) :
    w3.cell? ⟨g, 4, none⟩ = some x ∧ (∀ b i, b ≠ g ∨ i ≠ 4 → w3.cell? ⟨b, i, none⟩ = w2.cell? ⟨b, i, none⟩) ∧ (∀ b i, w3.frozen? ⟨b, i, none⟩ = w2.frozen? ⟨b, i, none⟩) ∧ w3.heap.size = w2.heap.size ∧ (∀ k, k ≠ g → w3.heap[k]? = w2.heap[k]?) := by
  subst h
  refine ⟨set_same h2, fun b i hb => cell_set_ne (by omega), fun b i => World.frozen?_setCell _ _ _ _, by simp, fun k hk => Below.heap_setCell _ _ _ _ hk⟩
set_option maxHeartbeats 4000000 in
set_option maxRecDepth 100000 in
theorem realAt_raw (s : ByteArray) (a e : Nat) (b : Int) (w : World) (hs : s.size ≤ 65536) (ha : a ≤ e) (he : e ≤ s.size) (hz : ¬ 100 < e - a → RBW w (s.extract a e) b) :
    Calls Tryz.prog 59 #[.string s, .int .i64 (a : Int), .int .i64 (e : Int)] w (WPost w (if 100 < e - a then .bad 32 a else .ok ⟨5, s.extract a e, 0, b, 0, a⟩ e)) := by
  have HC := hid (fun w => limited_raw 5 s a e 100 w hs ha he (by omega))
  by_cases hb : 100 < e - a
  · rw [if_pos hb]
    have hl : limd 5 s a e 100 = .bad 32 a := by unfold limd; rw [if_pos hb]
    rw [hl] at HC
    clear hl hb hz
    go_enter Tryz.func59, Tryz.ntmps59
    go_wp2_with (go_at_call 55; refine (HC.out _).mono ?_; rintro e w1 ⟨ht, k1, x1, ng1, sa1, sn1, sc1, b1, n1, p1, en1, c1, pp1, rfl, rfl, rfl, rfl, hsl, rfl, rfl, rfl, rfl, rfl, rfl⟩; cases hsl; simp only [tkV, msV]; obtain ⟨⟨k1, f1⟩, ⟨k2, f2⟩, s1, s2, hz⟩ := two_blocks ht; have HS1 := hid (fun i (hi : i < 7) => s1 i hi); have HS2 := hid (fun i (hi : i < 2) => s2 i hi); clear s1 s2; have k10 := k1 0; have k11 := k1 1; have k12 := k1 2; have k13 := k1 3; have k14 := k1 4; have k15 := k1 5; have k16 := k1 6; have k20 := k2 0; have k21 := k2 1; simp at k10 k11 k12 k13 k14 k15 k16 k20 k21; clear k1 k2; have HT := hid ht; clear ht; have hzA := Nat.lt_of_lt_of_le (Nat.lt_add_of_pos_right (by decide : 0 < 2)) hz; have hzB := Nat.lt_of_lt_of_le (Nat.add_lt_add_left (by decide : 1 < 2) _) hz)
    go_region
    all_goals go_wp2_with fail
    change bodyPost _ _ _ _ _ (((((put9 w1 w.heap.size (w.heap.size + 1) _ _ _ _ _ _ _ _ _)).alloc _).alloc _).drew); refine put9_all (fun W => bodyPost _ _ _ _ _ ((((W).alloc _).alloc _).drew)) (by omega) HS1.out HS2.out ?_; rintro W ⟨q0, q1, q2, q3, q4, q5, q6, r0, r1⟩ hoth hsz htn; have HTN := hid (htn w (Tn.thenNo (((Tn.refl No w).alloc _).alloc _) HT.out) (by omega) (by omega)); clear htn; have hgA : w.heap.size < W.heap.size := (by omega); have hgB : w.heap.size + 1 < W.heap.size := (by omega); refine bodyPost_ret (v := .tuple #[noTk, .int .i64 0, msV 32 (a : Int)]) (by simp [results, Tryz.results59, go_sem, tkV, noTk, msV, q0, q1, q2, q3, q4, q5, q6, r0, r1, hgA, hgB]) rfl ?_
    exact ⟨((HTN.out.alloc _).alloc _).drew, _, _, _, _, _, _, _, _, _, _, _, _, rfl, rfl, rfl, rfl, rfl, rfl, rfl, rfl, rfl, rfl, rfl⟩
  · rw [if_neg hb]
    have hl : limd 5 s a e 100 = stands 5 s a e := by unfold limd; rw [if_neg hb]
    rw [hl] at HC
    have HZ := hid (hz hb)
    clear hl hb hz
    go_enter Tryz.func59, Tryz.ntmps59
    go_wp2_with (first
      | (go_at_call 55; refine (HC.out _).mono ?_; rintro e w1 ⟨ht, k1, x1, ng1, sa1, sn1, sc1, b1, n1, p1, en1, c1, pp1, rfl, rfl, rfl, rfl, rfl, rfl, rfl, rfl, rfl, hN⟩; have HN1 := hid hN; clear hN; simp only [tkV, msV]; obtain ⟨⟨k1, f1⟩, ⟨k2, f2⟩, s1, s2, hz⟩ := two_blocks ht; have HS1 := hid (fun i (hi : i < 7) => s1 i hi); have HS2 := hid (fun i (hi : i < 2) => s2 i hi); clear s1 s2; have k10 := k1 0; have k11 := k1 1; have k12 := k1 2; have k13 := k1 3; have k14 := k1 4; have k15 := k1 5; have k16 := k1 6; have k20 := k2 0; have k21 := k2 1; simp at k10 k11 k12 k13 k14 k15 k16 k20 k21; clear k1 k2; have HT := hid ht; clear ht; have hzA := Nat.lt_of_lt_of_le (Nat.lt_add_of_pos_right (by decide : 0 < 2)) hz; have hzB := Nat.lt_of_lt_of_le (Nat.add_lt_add_left (by decide : 1 < 2) _) hz)
      | (go_at_call 73; refine (HZ.out _ (Tn.thenNo (((Tn.refl No w).alloc _).alloc _) ((HT.out.alloc _).alloc _))).mono ?_; rintro e w2 ⟨rfl, ht2⟩; have HT2 := hid ht2; have ht3 := ((HT.out.alloc _).alloc _).thenNo ht2; obtain ⟨⟨k1b, f1b⟩, ⟨k2b, f2b⟩, s1b, s2b, hzb⟩ := two_blocks ht2; have HS1b := hid (fun i (hi : i < 7) => s1b i hi); have HS2b := hid (fun i (hi : i < 2) => s2b i hi); clear s1b s2b; have k10b := k1b 0; have k11b := k1b 1; have k12b := k1b 2; have k13b := k1b 3; have k14b := k1b 4; have k15b := k1b 5; have k16b := k1b 6; have k20b := k2b 0; have k21b := k2b 1; simp at k10b k11b k12b k13b k14b k15b k16b k20b k21b; clear k1b k2b; have HTb := hid ht2; clear ht2; have hzAb := Nat.lt_of_lt_of_le (Nat.lt_add_of_pos_right (by decide : 0 < 2)) hzb; have hzBb := Nat.lt_of_lt_of_le (Nat.add_lt_add_left (by decide : 1 < 2) _) hzb; obtain ⟨⟨k1c, f1c⟩, ⟨k2c, f2c⟩, s1c, s2c, hzc⟩ := two_blocks ht3; have HS1c := hid (fun i (hi : i < 7) => s1c i hi); have HS2c := hid (fun i (hi : i < 2) => s2c i hi); clear s1c s2c; have k10c := k1c 0; have k11c := k1c 1; have k12c := k1c 2; have k13c := k1c 3; have k14c := k1c 4; have k15c := k1c 5; have k16c := k1c 6; have k20c := k2c 0; have k21c := k2c 1; simp at k10c k11c k12c k13c k14c k15c k16c k20c k21c; clear k1c k2c; have HTc := hid ht3; clear ht3; have hzAc := Nat.lt_of_lt_of_le (Nat.lt_add_of_pos_right (by decide : 0 < 2)) hzc; have hzBc := Nat.lt_of_lt_of_le (Nat.add_lt_add_left (by decide : 1 < 2) _) hzc))
    obtain ⟨w3, h3⟩ : ∃ w3, w2.setCell ⟨w1.heap.size, 4, none⟩ (.int .u64 b) = w3 := ⟨_, rfl⟩
    rw [h3]
    obtain ⟨g4, go, gf, gz, gh⟩ := set4 h3 (by rw [k14b]; rfl)
    have hgh : ∀ k, k ≠ w1.heap.size → w3.heap[k]? = w2.heap[k]? := gh
    have m0 := (go w1.heap.size 0 (by omega)).trans k10b
    have m1 := (go w1.heap.size 1 (by omega)).trans k11b
    have m2 := (go w1.heap.size 2 (by omega)).trans k12b
    have m3 := (go w1.heap.size 3 (by omega)).trans k13b
    have m5 := (go w1.heap.size 5 (by omega)).trans k15b
    have m6 := (go w1.heap.size 6 (by omega)).trans k16b
    have m7 := (go (w1.heap.size + 1) 0 (by omega)).trans k20b
    have m8 := (go (w1.heap.size + 1) 1 (by omega)).trans k21b
    have e0 := (go w.heap.size 0 (by omega)).trans k10c
    have e1 := (go w.heap.size 1 (by omega)).trans k11c
    have e2 := (go w.heap.size 2 (by omega)).trans k12c
    have e3 := (go w.heap.size 3 (by omega)).trans k13c
    have e4 := (go w.heap.size 4 (by omega)).trans k14c
    have e5 := (go w.heap.size 5 (by omega)).trans k15c
    have e6 := (go w.heap.size 6 (by omega)).trans k16c
    have e7 := (go (w.heap.size + 1) 0 (by omega)).trans k20c
    have e8 := (go (w.heap.size + 1) 1 (by omega)).trans k21c
    have f3 : ∀ i, w3.frozen? ⟨w.heap.size, i, none⟩ = false := fun i => (gf _ _).trans (f1c i)
    have f4 : ∀ i, w3.frozen? ⟨w.heap.size + 1, i, none⟩ = false := fun i => (gf _ _).trans (f2c i)
    have HTW : Hid (Tn No w w3) := hid (by rw [← h3]; exact (Tn.thenNo (((Tn.refl No w).alloc _).alloc _) HTc.out).set _ _ (by intro h; simp at h; omega))
    have HSA : Hid (∀ i, i < 7 → (w3.cell? ⟨w.heap.size, i, none⟩).isSome = true) := hid (fun i hi => by rw [go w.heap.size i (by omega)]; exact HS1c.out i hi)
    have HSB : Hid (∀ i, i < 2 → (w3.cell? ⟨w.heap.size + 1, i, none⟩).isSome = true) := hid (fun i hi => by rw [go (w.heap.size + 1) i (by omega)]; exact HS2c.out i hi)
    have HNW : Hid (NumAt w3 (w.heap.size + 2) ng1 (.slice sa1 sn1 sc1) 0) := hid (by
      have hz1 := HT2.out.size
      simp at hz1
      refine ((HN1.out.blocks (w' := w3) (by omega) (fun b hb hb2 => ?_))).mono (by simp)
      rw [gh b (by omega), HT2.out.block b (by simp; omega) (fun e => e), Below.heap_alloc _ _ _ (by simp; omega), Below.heap_alloc _ _ _ hb2])
    clear k10 k11 k12 k13 k14 k15 k16 k20 k21 k10b k11b k12b k13b k14b k15b k16b k20b k21b k10c k11c k12c k13c k14c k15c k16c k20c k21c f1 f2 f1b f2b f1c f2c HS1 HS2 HS1b HS2b HS1c HS2c HT HTb HTc HN1 HT2 go gf gh
    have hzW : w.heap.size + 2 ≤ w3.heap.size := by omega
    clear h3
    go_region
    all_goals go_wp2_with fail
    change bodyPost _ _ _ _ _ (((put9 w3 w.heap.size (w.heap.size + 1) _ _ _ _ _ _ _ _ _)).drew); refine put9_all (fun W => bodyPost _ _ _ _ _ ((W).drew)) (by omega) HSA.out HSB.out ?_; rintro W ⟨q0, q1, q2, q3, q4, q5, q6, r0, r1⟩ hoth hsz htn; have HTN := hid (htn w HTW.out (by omega) (by omega)); clear htn; have hgA : w.heap.size < W.heap.size := (by omega); have hgB : w.heap.size + 1 < W.heap.size := (by omega); refine bodyPost_ret (v := .tuple #[tkV 5 (s.extract a e) ng1 (.slice sa1 sn1 sc1) b 0 (a : Int), .int .i64 (e : Int), msV 0 0]) (by simp [results, Tryz.results59, go_sem, tkV, noTk, msV, q0, q1, q2, q3, q4, q5, q6, r0, r1, hgA, hgB]) rfl ?_
    exact ⟨HTN.out.drew, _, _, _, _, _, _, _, _, _, _, _, _, rfl, rfl, rfl, rfl, rfl, rfl, rfl, rfl, rfl, (HNW.out.blocks (w' := W.drew) (by show w3.heap.size ≤ W.heap.size; omega) (fun b hb _ => hoth b (by omega) (by omega))).mono (by omega)⟩
end Go.Proofs.YtcmhfeeocehlaaaGreatDoor
namespace Go.Proofs.YtcmhfeeocehlaaaGreatDoor
set_option linter.unusedSimpArgs false
set_option linter.unusedVariables false
open Go.RowKit Go.PlainAid
attribute [local go_sem ↓] Go.wp_at_zero Go.wp_at_succ

theorem runF_all (p : Int → Bool) (s : ByteArray) : ∀ f a k, a ≤ k → k < runF p s f a → p (bt s k) = true
  | 0, a, k, h1, h2 => by unfold runF at h2; omega
  | f + 1, a, k, h1, h2 => by
    unfold runF at h2
    split at h2
    · rename_i hp
      rcases Nat.eq_or_lt_of_le h1 with rfl | h
      · exact hp
      · exact runF_all p s f (a + 1) k (by omega) h2
    · omega
theorem run_all {p : Int → Bool} {s : ByteArray} {a k : Nat} (h1 : a ≤ k) (h2 : k < run p s a) : p (bt s k) = true := runF_all p s _ a k h1 h2
theorem seg_getD (s : ByteArray) (a e j : Nat) (hj : a + j < e) : (s.extract a e).data.toList.getD j 0 = s.data.toList.getD (a + j) 0 := by
  rw [ext_list, getD_drop]
  simp only [List.getD_eq_getElem?_getD, List.getElem?_take]
  rw [if_pos hj]
theorem isD_byte (s : ByteArray) (k : Nat) : isD (bt s k) = isDig (s.data.toList.getD k 0) := by
  rw [bt_list, Bool.eq_iff_iff, isD_iff]
  simp [isDig]
  omega
theorem seg_dig (s : ByteArray) (a e : Nat) (he : e ≤ s.size) (h : ∀ k, a ≤ k → k < e → isD (bt s k) = true) : (s.extract a e).data.toList.all isDig = true := by
  rw [List.all_eq_true]
  intro c hc
  obtain ⟨j, hj, rfl⟩ := List.getElem_of_mem hc
  have hl : (s.extract a e).data.toList.length = e - a := by rw [← Lib.size_eq]; exact ext_size2 s a e he
  have hg := seg_getD s a e j (by omega)
  rw [List.getD_eq_getElem?_getD, List.getElem?_eq_getElem hj, Option.getD_some] at hg
  rw [hg, ← isD_byte]
  exact h _ (by omega) (by omega)
theorem seg_cons (s : ByteArray) (a e : Nat) (ha : a < e) (he : e ≤ s.size) : (s.extract a e).data.toList = s.data.toList.getD a 0 :: (s.extract (a + 1) e).data.toList := by
  rw [ext_list, ext_list]
  have hl : a < (s.data.toList.take e).length := by rw [List.length_take, ← Lib.size_eq]; omega
  rw [List.drop_eq_getElem_cons hl]
  congr 1
  rw [List.getElem_take, List.getD_eq_getElem?_getD, List.getElem?_eq_getElem]
  rfl

theorem nuD_lt {s : ByteArray} {a : Nat} (h : isNum s a = true) : nuD s a < s.size ∧ isD (bt s (nuD s a)) = true ∧ a ≤ nuD s a ∧ nuD s a ≤ a + 1 := by
  unfold isNum at h
  have hd : isD (bt s (nuD s a)) = true := by
    unfold nuD
    by_cases h1 : bt s a = 126
    · rw [if_pos h1]
      rw [h1] at h
      simpa [isD] using h
    · rw [if_neg h1]
      have h2 : (bt s a == 126) = false := by simpa using h1
      rw [h2] at h
      simpa using h
  refine ⟨lt_of_p isD_0 hd, hd, ?_, ?_⟩ <;> (unfold nuD; split <;> omega)
theorem whole_lt {s : ByteArray} {a : Nat} (h : isNum s a = true) : nuD s a < whole s a ∧ whole s a ≤ s.size := by
  obtain ⟨h1, h2, _, _⟩ := nuD_lt h
  exact ⟨run_gt isD_0 h2, run_le _ _ _ (by omega)⟩
theorem frac_ge (s : ByteArray) (a : Nat) (ha : a ≤ s.size) : a ≤ frac s a ∧ frac s a ≤ s.size := by
  unfold frac
  split
  · rename_i h
    have := lt_of_p isD_0 h.2
    have := run_ge isD s (a + 1)
    have := run_le isD s (a + 1) (by omega)
    omega
  · omega
theorem expo_ge (s : ByteArray) (a : Nat) (ha : a ≤ s.size) : a ≤ expo s a ∧ expo s a ≤ s.size := by
  unfold expo
  split
  · rename_i h
    have := lt_of_p isD_0 h.2
    have := run_ge isD s (exD s a)
    have := run_le isD s (exD s a) (by omega)
    have : a ≤ exD s a := by unfold exD; split <;> omega
    omega
  · omega
theorem numE_ge {s : ByteArray} {a : Nat} (h : isNum s a = true) : whole s a ≤ numE s a ∧ numE s a ≤ s.size := by
  have h1 := whole_lt h
  have h2 := frac_ge s (whole s a) h1.2
  have h3 := expo_ge s (frac s (whole s a)) h2.2
  unfold numE
  omega
theorem num_dw {s : ByteArray} {a : Nat} (hs : s.size ≤ 65536) (h : isNum s a = true) : DW (s.extract a (whole s a)) (zof (s.extract a (whole s a)).data.toList) := by
  obtain ⟨h1, h2, h3, h4⟩ := nuD_lt h
  obtain ⟨h5, h6⟩ := whole_lt h
  have hz := ext_size2 s a (whole s a) h6
  have hd : (s.extract (nuD s a) (whole s a)).data.toList.all isDig = true := seg_dig s _ _ h6 (fun k hk1 hk2 => run_all hk1 hk2)
  have hne : (s.extract (nuD s a) (whole s a)).data.toList ≠ [] := by
    rw [seg_cons s _ _ h5 h6]; simp
  refine dw_of _ (s.extract (nuD s a) (whole s a)).data.toList (by omega) hd hne ?_
  by_cases hq : bt s a = 126
  · have hn : nuD s a = a + 1 := by unfold nuD; rw [if_pos hq]
    right
    rw [hn, seg_cons s a _ (by omega) h6]
    congr 1
    rw [bt_list] at hq
    apply UInt8.toNat_inj.1
    have h126 : (126 : UInt8).toNat = 126 := rfl
    omega
  · have hn : nuD s a = a := by unfold nuD; rw [if_neg hq]
    left
    rw [hn]

set_option maxHeartbeats 2000000 in
set_option maxRecDepth 100000 in
theorem number_raw (rb : ByteArray → Int) (s : ByteArray) (a : Nat) (w : World) (hs : s.size ≤ 65536) (hn : isNum s a = true) (hr : ¬ numE s a = whole s a → ¬ 100 < numE s a - a → RBW w (s.extract a (numE s a)) (rb (s.extract a (numE s a)))) :
    Calls Tryz.prog 29 #[.string s, .int .i64 (a : Int)] w (WPost w (numW rb s a)) := by
  obtain ⟨h1, h2, h3, h4⟩ := nuD_lt hn
  obtain ⟨h5, h6⟩ := whole_lt hn
  obtain ⟨h7, h8⟩ := numE_ge hn
  have hdw := num_dw hs hn
  have hfr := frac_ge s (whole s a) h6
  have hal : a < s.size := by omega
  have hb := get_bt s a hal
  have HW := hid (fun w => behind_digits s (nuD s a) w (by omega) (by omega))
  have HF := hid (fun w => frac_raw s (whole s a) w hs h6)
  have HE := hid (fun w => expo_raw s (frac s (whole s a)) w hs hfr.2)
  have hnum : numE s a = expo s (frac s (whole s a)) := rfl
  have hwh : whole s a = run isD s (nuD s a) := rfl
  rw [← hnum] at HE
  rw [← hwh] at HW
  have hI := fun (h : numE s a = whole s a) w => integerAt_raw s a (numE s a) (zof (s.extract a (numE s a)).data.toList) w hs (by omega) h8 (by rw [h]; exact hdw)
  have hR := fun (h : ¬ numE s a = whole s a) (w' : World) (t : Tn No w w') => realAt_raw s a (numE s a) (rb (s.extract a (numE s a))) w' hs (by omega) h8 (fun h' => (hr h h').no t)
  have hO1 : numE s a = whole s a → numW rb s a = if 2000 < numE s a - a then .bad 32 a else .ok ⟨4, s.extract a (numE s a), zof (s.extract a (numE s a)).data.toList, 0, 0, a⟩ (numE s a) := fun h => by unfold numW; rw [if_pos h]
  have hO2 : ¬ numE s a = whole s a → numW rb s a = if 100 < numE s a - a then .bad 32 a else .ok ⟨5, s.extract a (numE s a), 0, rb (s.extract a (numE s a)), 0, a⟩ (numE s a) := fun h => by unfold numW; rw [if_neg h]
  obtain ⟨f, hf⟩ : ∃ f, frac s (whole s a) = f := ⟨_, rfl⟩
  rw [hf] at HF HE
  obtain ⟨d, hd⟩ : ∃ d, nuD s a = d := ⟨_, rfl⟩
  obtain ⟨O, hO⟩ : ∃ O, numW rb s a = O := ⟨_, rfl⟩
  rw [hO] at hO1 hO2 ⊢
  obtain ⟨e, he⟩ : ∃ e, numE s a = e := ⟨_, rfl⟩
  obtain ⟨wh, hwh'⟩ : ∃ wh, whole s a = wh := ⟨_, rfl⟩
  rw [he, hwh'] at hI hR hO1 hO2
  rw [he] at HE
  rw [hwh'] at HW HF
  have hle : wh ≤ e := by omega
  have hda : d = if bt s a = 126 then a + 1 else a := by rw [← hd]; rfl
  rw [hd] at HW
  clear hdw hfr hnum hwh hr hn hf hO he hwh' hd h1 h2 h3 h4 h5 h6 h7 h8
  by_cases hq : bt s a = 126
  · rw [if_pos hq] at hda
    rw [hq] at hb
    subst hda
    rw [cast1] at HW
    clear hq
    by_cases h : e = wh
    · have HC := hid (hI h)
      rw [← hO1 h] at HC
      clear hI hR hO1 hO2
      subst h
      go_enter Tryz.func29, Tryz.ntmps29
      go_wp2_with (first
        | (go_at_call 53; refine (HW.out _).mono ?_; rintro e w' ⟨rfl, rfl⟩)
        | (go_at_call 57; refine (HF.out _).mono ?_; rintro e w' ⟨rfl, rfl⟩)
        | (go_at_call 56; refine (HE.out _).mono ?_; rintro e w' ⟨rfl, rfl⟩)
        | (go_at_call 58; refine (HC.out _).mono ?_; rintro e w1 ⟨ht, k1, x1, ng1, sa1, sn1, sc1, b1, n1, p1, en1, c1, pp1, rfl, hsh⟩; simp only [tkV, msV]; have HSH := hid hsh; clear hsh; obtain ⟨⟨k1, f1⟩, ⟨k2, f2⟩, s1, s2, hz⟩ := two_blocks ht; have HS1 := hid (fun i (hi : i < 7) => s1 i hi); have HS2 := hid (fun i (hi : i < 2) => s2 i hi); clear s1 s2; have k10 := k1 0; have k11 := k1 1; have k12 := k1 2; have k13 := k1 3; have k14 := k1 4; have k15 := k1 5; have k16 := k1 6; have k20 := k2 0; have k21 := k2 1; simp at k10 k11 k12 k13 k14 k15 k16 k20 k21; clear k1 k2; have HT := hid ht; clear ht; have hzA := Nat.lt_of_lt_of_le (Nat.lt_add_of_pos_right (by decide : 0 < 2)) hz; have hzB := Nat.lt_of_lt_of_le (Nat.add_lt_add_left (by decide : 1 < 2) _) hz))
      change bodyPost _ _ _ _ _ (put9 w1 w.heap.size (w.heap.size + 1) _ _ _ _ _ _ _ _ _); refine put9_all (bodyPost _ _ _ _ _) (by omega) HS1.out HS2.out ?_; rintro W ⟨q0, q1, q2, q3, q4, q5, q6, r0, r1⟩ hoth hsz htn; have HTN := hid (htn w (Tn.thenNo (((Tn.refl No w).alloc _).alloc _) HT.out) (by omega) (by omega)); clear htn; refine bodyPost_ret (v := .tuple #[tkV k1 x1 ng1 (.slice sa1 sn1 sc1) b1 n1 p1, .int .i64 en1, msV c1 pp1]) (by simp [results, Tryz.results29, go_sem, tkV, msV, q0, q1, q2, q3, q4, q5, q6, r0, r1]) rfl ?_; exact ⟨HTN.out, _, _, _, _, _, _, _, _, _, _, _, _, rfl, HSH.out.pass hoth hsz (by first | (simp; done) | (simp; omega) | omega) (by first | (simp; done) | (simp; omega) | omega)⟩
    · have HC := hid (hR h)
      rw [← hO2 h] at HC
      have hne : ((e : Int) == (wh : Int)) = false := by rw [beq_eq_false_iff_ne]; omega
      clear hI hR hO1 hO2
      go_enter Tryz.func29, Tryz.ntmps29
      go_wp2_with (first
        | (go_at_call 53; refine (HW.out _).mono ?_; rintro e w' ⟨rfl, rfl⟩)
        | (go_at_call 57; refine (HF.out _).mono ?_; rintro e w' ⟨rfl, rfl⟩)
        | (go_at_call 56; refine (HE.out _).mono ?_; rintro e w' ⟨rfl, rfl⟩)
        | (go_at_call 59; refine (HC.out _ (by repeat (first | exact Tn.refl _ _ | apply Tn.drew | apply Tn.drewN | apply Tn.alloc | (refine Tn.then ?_ (by assumption)) | (refine Tn.thenNo ?_ (by assumption))))).mono ?_; rintro e w1 ⟨ht, k1, x1, ng1, sa1, sn1, sc1, b1, n1, p1, en1, c1, pp1, rfl, hsh⟩; simp only [tkV, msV]; have HSH := hid hsh; clear hsh; obtain ⟨⟨k1, f1⟩, ⟨k2, f2⟩, s1, s2, hz⟩ := two_blocks ht; have HS1 := hid (fun i (hi : i < 7) => s1 i hi); have HS2 := hid (fun i (hi : i < 2) => s2 i hi); clear s1 s2; have k10 := k1 0; have k11 := k1 1; have k12 := k1 2; have k13 := k1 3; have k14 := k1 4; have k15 := k1 5; have k16 := k1 6; have k20 := k2 0; have k21 := k2 1; simp at k10 k11 k12 k13 k14 k15 k16 k20 k21; clear k1 k2; have HT := hid ht; clear ht; have hzA := Nat.lt_of_lt_of_le (Nat.lt_add_of_pos_right (by decide : 0 < 2)) hz; have hzB := Nat.lt_of_lt_of_le (Nat.add_lt_add_left (by decide : 1 < 2) _) hz))
      change bodyPost _ _ _ _ _ (put9 w1 w.heap.size (w.heap.size + 1) _ _ _ _ _ _ _ _ _); refine put9_all (bodyPost _ _ _ _ _) (by omega) HS1.out HS2.out ?_; rintro W ⟨q0, q1, q2, q3, q4, q5, q6, r0, r1⟩ hoth hsz htn; have HTN := hid (htn w (Tn.thenNo (((Tn.refl No w).alloc _).alloc _) HT.out) (by omega) (by omega)); clear htn; refine bodyPost_ret (v := .tuple #[tkV k1 x1 ng1 (.slice sa1 sn1 sc1) b1 n1 p1, .int .i64 en1, msV c1 pp1]) (by simp [results, Tryz.results29, go_sem, tkV, msV, q0, q1, q2, q3, q4, q5, q6, r0, r1]) rfl ?_; exact ⟨HTN.out, _, _, _, _, _, _, _, _, _, _, _, _, rfl, HSH.out.pass hoth hsz (by first | (simp; done) | (simp; omega) | omega) (by first | (simp; done) | (simp; omega) | omega)⟩
  · rw [if_neg hq] at hda
    subst hda
    by_cases h : e = wh
    · have HC := hid (hI h)
      rw [← hO1 h] at HC
      clear hI hR hO1 hO2
      subst h
      go_enter Tryz.func29, Tryz.ntmps29
      go_wp2_with (first
        | (go_at_call 53; refine (HW.out _).mono ?_; rintro e w' ⟨rfl, rfl⟩)
        | (go_at_call 57; refine (HF.out _).mono ?_; rintro e w' ⟨rfl, rfl⟩)
        | (go_at_call 56; refine (HE.out _).mono ?_; rintro e w' ⟨rfl, rfl⟩)
        | (go_at_call 58; refine (HC.out _).mono ?_; rintro e w1 ⟨ht, k1, x1, ng1, sa1, sn1, sc1, b1, n1, p1, en1, c1, pp1, rfl, hsh⟩; simp only [tkV, msV]; have HSH := hid hsh; clear hsh; obtain ⟨⟨k1, f1⟩, ⟨k2, f2⟩, s1, s2, hz⟩ := two_blocks ht; have HS1 := hid (fun i (hi : i < 7) => s1 i hi); have HS2 := hid (fun i (hi : i < 2) => s2 i hi); clear s1 s2; have k10 := k1 0; have k11 := k1 1; have k12 := k1 2; have k13 := k1 3; have k14 := k1 4; have k15 := k1 5; have k16 := k1 6; have k20 := k2 0; have k21 := k2 1; simp at k10 k11 k12 k13 k14 k15 k16 k20 k21; clear k1 k2; have HT := hid ht; clear ht; have hzA := Nat.lt_of_lt_of_le (Nat.lt_add_of_pos_right (by decide : 0 < 2)) hz; have hzB := Nat.lt_of_lt_of_le (Nat.add_lt_add_left (by decide : 1 < 2) _) hz))
      change bodyPost _ _ _ _ _ (put9 w1 w.heap.size (w.heap.size + 1) _ _ _ _ _ _ _ _ _); refine put9_all (bodyPost _ _ _ _ _) (by omega) HS1.out HS2.out ?_; rintro W ⟨q0, q1, q2, q3, q4, q5, q6, r0, r1⟩ hoth hsz htn; have HTN := hid (htn w (Tn.thenNo (((Tn.refl No w).alloc _).alloc _) HT.out) (by omega) (by omega)); clear htn; refine bodyPost_ret (v := .tuple #[tkV k1 x1 ng1 (.slice sa1 sn1 sc1) b1 n1 p1, .int .i64 en1, msV c1 pp1]) (by simp [results, Tryz.results29, go_sem, tkV, msV, q0, q1, q2, q3, q4, q5, q6, r0, r1]) rfl ?_; exact ⟨HTN.out, _, _, _, _, _, _, _, _, _, _, _, _, rfl, HSH.out.pass hoth hsz (by first | (simp; done) | (simp; omega) | omega) (by first | (simp; done) | (simp; omega) | omega)⟩
    · have HC := hid (hR h)
      rw [← hO2 h] at HC
      have hne : ((e : Int) == (wh : Int)) = false := by rw [beq_eq_false_iff_ne]; omega
      clear hI hR hO1 hO2
      go_enter Tryz.func29, Tryz.ntmps29
      go_wp2_with (first
        | (go_at_call 53; refine (HW.out _).mono ?_; rintro e w' ⟨rfl, rfl⟩)
        | (go_at_call 57; refine (HF.out _).mono ?_; rintro e w' ⟨rfl, rfl⟩)
        | (go_at_call 56; refine (HE.out _).mono ?_; rintro e w' ⟨rfl, rfl⟩)
        | (go_at_call 59; refine (HC.out _ (by repeat (first | exact Tn.refl _ _ | apply Tn.drew | apply Tn.drewN | apply Tn.alloc | (refine Tn.then ?_ (by assumption)) | (refine Tn.thenNo ?_ (by assumption))))).mono ?_; rintro e w1 ⟨ht, k1, x1, ng1, sa1, sn1, sc1, b1, n1, p1, en1, c1, pp1, rfl, hsh⟩; simp only [tkV, msV]; have HSH := hid hsh; clear hsh; obtain ⟨⟨k1, f1⟩, ⟨k2, f2⟩, s1, s2, hz⟩ := two_blocks ht; have HS1 := hid (fun i (hi : i < 7) => s1 i hi); have HS2 := hid (fun i (hi : i < 2) => s2 i hi); clear s1 s2; have k10 := k1 0; have k11 := k1 1; have k12 := k1 2; have k13 := k1 3; have k14 := k1 4; have k15 := k1 5; have k16 := k1 6; have k20 := k2 0; have k21 := k2 1; simp at k10 k11 k12 k13 k14 k15 k16 k20 k21; clear k1 k2; have HT := hid ht; clear ht; have hzA := Nat.lt_of_lt_of_le (Nat.lt_add_of_pos_right (by decide : 0 < 2)) hz; have hzB := Nat.lt_of_lt_of_le (Nat.add_lt_add_left (by decide : 1 < 2) _) hz))
      change bodyPost _ _ _ _ _ (put9 w1 w.heap.size (w.heap.size + 1) _ _ _ _ _ _ _ _ _); refine put9_all (bodyPost _ _ _ _ _) (by omega) HS1.out HS2.out ?_; rintro W ⟨q0, q1, q2, q3, q4, q5, q6, r0, r1⟩ hoth hsz htn; have HTN := hid (htn w (Tn.thenNo (((Tn.refl No w).alloc _).alloc _) HT.out) (by omega) (by omega)); clear htn; refine bodyPost_ret (v := .tuple #[tkV k1 x1 ng1 (.slice sa1 sn1 sc1) b1 n1 p1, .int .i64 en1, msV c1 pp1]) (by simp [results, Tryz.results29, go_sem, tkV, msV, q0, q1, q2, q3, q4, q5, q6, r0, r1]) rfl ?_; exact ⟨HTN.out, _, _, _, _, _, _, _, _, _, _, _, _, rfl, HSH.out.pass hoth hsz (by first | (simp; done) | (simp; omega) | omega) (by first | (simp; done) | (simp; omega) | omega)⟩
end Go.Proofs.YtcmhfeeocehlaaaGreatDoor
