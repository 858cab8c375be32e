/-
  integer: the number that digits say, with a sign ahead perhaps.
-/
import Derived.Test.YtcmhfeeocehlaaaGreatDoorQuotes2
namespace Go.Proofs.YtcmhfeeocehlaaaGreatDoor
set_option linter.unusedSimpArgs false
set_option linter.unusedVariables false
open Go.RowKit Go.PlainAid
attribute [local go_sem ↓] Go.wp_at_zero Go.wp_at_succ

/-- without the noughts ahead -/
def tl0 : List UInt8 → List UInt8
  | [] => []
  | c :: r => if c = 48 then tl0 r else c :: r
theorem tl0_le : ∀ l, (tl0 l).length ≤ l.length
  | [] => Nat.le_refl _
  | c :: r => by
    unfold tl0
    split
    · have := tl0_le r; simp; omega
    · exact Nat.le_refl _
theorem tl0_first : ∀ l, (tl0 l) ≠ [] → (tl0 l).getD 0 0 ≠ 48
  | [], h => absurd rfl h
  | c :: r, h => by
    unfold tl0 at h ⊢
    split
    · rename_i hc
      rw [if_pos hc] at h
      exact tl0_first r h
    · rename_i hc
      simpa using hc
theorem tl0_dval : ∀ l r, dval (tl0 l ++ r) = dval (l ++ r)
  | [], _ => rfl
  | c :: l, r => by
    unfold tl0
    split
    · rename_i hc
      rw [tl0_dval l r, hc]
      simp [dval]
    · rfl
theorem tl0_dig : ∀ l, l.all isDig = true → (tl0 l).all isDig = true
  | [], _ => rfl
  | c :: r, h => by
    unfold tl0
    split
    · simp only [List.all_cons, Bool.and_eq_true] at h
      exact tl0_dig r h.2
    · exact h
theorem strOf_size (l : List UInt8) : (strOf l).size = l.length := by simp [strOf, ByteArray.size]
def szV : Value → Nat | .string t => t.size | _ => 0

set_option maxHeartbeats 1000000 in
set_option maxRecDepth 100000 in
theorem trimByte_raw (s : ByteArray) (w : World) (hs : s.size ≤ 65536) :
    Calls Tryz.prog 93 #[.string s, .int .u8 48] w fun e w' => e = .returned (.string (strOf (tl0 s.data.toList))) ∧ w' = w := by
  obtain ⟨R, hR⟩ : ∃ R, tl0 s.data.toList = R := ⟨_, rfl⟩
  rw [hR]
  have HR := hid hR
  clear hR
  go_enter Tryz.func93, Tryz.ntmps93
  go_wp2_with fail
  go_loop [0] (fun v => ∃ t : ByteArray, v = .string t ∧ t.size ≤ 65536 ∧ Hid (tl0 t.data.toList = R)) (fun v => szV v)
  case atStart => exact ⟨s, rfl, hs, HR⟩
  case round =>
    obtain ⟨t, rfl, hts, HP⟩ := hrel
    by_cases h0 : t.size = 0
    · have ht := empty_of_size h0
      subst ht
      have hR : R = [] := HP.out.symm
      subst hR
      clear HP HR hts
      go_wp2_with fail
      go_ret
      exact ⟨rfl, rfl⟩
    · obtain ⟨c, r, hc⟩ : ∃ c r, t.data.toList = c :: r := by
        cases hd : t.data.toList with
        | nil => rw [Lib.size_eq, hd] at h0; exact absurd rfl h0
        | cons c r => exact ⟨c, r, rfl⟩
      have hb : bt t 0 = (c.toNat : Int) := by rw [bt_list, hc]; rfl
      have hg := get_bt t 0 (by omega)
      rw [hb] at hg
      have hpos : (0 : Int) < (t.size : Int) := by omega
      have h1 : (1 : Int) ≤ (t.size : Int) := by omega
      by_cases h48 : c = 48
      · have hx : (t.extract 1 t.size).data.toList = r := by rw [ext_rest, hc]; rfl
        have hxs : (t.extract 1 t.size).size = t.size - 1 := ext_size t 1
        have HP' : Hid (tl0 (t.extract 1 t.size).data.toList = R) := hid (by rw [hx, ← HP.out, hc, tl0, if_pos h48])
        rw [h48] at hg
        have hg' : ((t[0]'(by omega)).toNat : Int) = 48 := hg
        clear hg hb hc hx HP HR
        go_wp2_with fail
        exact ⟨⟨_, rfl, by omega, HP'⟩, by show (t.extract 1 t.size).size < t.size; omega⟩
      · have hR : R = t.data.toList := by rw [← HP.out, hc, tl0, if_neg h48]
        have hne : ¬ (c.toNat : Int) = 48 := fun e => h48 (by apply UInt8.toNat_inj.1; have : (48 : UInt8).toNat = 48 := rfl; omega)
        subst hR
        clear hb hc HP HR
        go_wp2_with fail
        go_ret
        exact ⟨rfl, rfl⟩
set_option maxHeartbeats 1000000 in
set_option maxRecDepth 100000 in
theorem trimLeft_raw (s : ByteArray) (w : World) (hs : s.size ≤ 65536) :
    Calls Tryz.prog 81 #[.string s, .string ⟨#[48]⟩] w fun e w' => e = .returned (.string (strOf (tl0 s.data.toList))) ∧ w' = w := by
  have HT := hid (fun w => trimByte_raw s w hs)
  by_cases h0 : s.size = 0
  · have hse := empty_of_size h0
    subst hse
    clear HT
    go_enter Tryz.func81, Tryz.ntmps81
    go_wp2_with fail
    go_ret
    exact ⟨rfl, rfl⟩
  · have hne : (s.toList == []) = false := by
      rw [beq_eq_false_iff_ne, Lib.toList_data]
      intro e
      rw [Lib.size_eq, e] at h0
      exact h0 rfl
    go_enter Tryz.func81, Tryz.ntmps81
    go_wp2_with (go_at_call 93; refine (HT.out _).mono ?_; rintro e w' ⟨rfl, rfl⟩)
    go_ret
    exact ⟨rfl, rfl⟩

theorem Tn.ofgb {a b : World} (h : a.grownBy b none) : Tn No a b := ⟨h.os, h.tape, h.output, h.size, fun k hk _ => h.block k hk (by simp)⟩
theorem allDig_of {l : List UInt8} (h : l.all isDig = true) (hn : l ≠ []) : allDig l = true := by
  unfold allDig
  rw [h]
  cases l with
  | nil => exact absurd rfl hn
  | cons _ _ => rfl
theorem isDig_lt {c : UInt8} (h : isDig c = true) : 48 ≤ c.toNat ∧ c.toNat ≤ 57 := by simpa [isDig] using h
theorem parse_dig (t : ByteArray) (w : World) (ht : t.size ≤ 65536) (hd : t.data.toList.all isDig = true) (hn : t.data.toList ≠ []) (hz : t.data.toList.getD 0 0 ≠ 48 ∨ t.data.toList = [48]) :
    Calls Tryz.prog 82 #[.string t] w (ParseYes w (dval t.data.toList : Int) t.size) := by
  obtain ⟨c, r, hc⟩ : ∃ c r, t.data.toList = c :: r := by
    cases hl : t.data.toList with
    | nil => exact absurd hl hn
    | cons c r => exact ⟨c, r, rfl⟩
  have hcd : isDig c = true := by rw [hc] at hd; simp only [List.all_cons, Bool.and_eq_true] at hd; exact hd.1
  have h0 : 0 < t.size := by rw [Lib.size_eq, hc]; simp
  have hm : t.size ≤ maxLen := by unfold maxLen; omega
  have hcut := fun w => cut_no t w hm (by
    rw [hc]
    simp only [List.take_succ_cons, List.take_zero, beq_eq_false_iff_ne, ne_eq, List.cons.injEq, and_true]
    intro e
    have := isDig_lt hcd
    rw [e] at this
    have h126 : (126 : UInt8).toNat = 126 := rfl
    omega)
  have hb : ((t[0].toNat : Int)) = (c.toNat : Int) := by
    have := get_bt t 0 h0
    rw [this, bt_list, hc]
    rfl
  have had := allDig_of hd hn
  rcases hz with hz | hz
  · have := parse_yes1 t t false w (by omega) hcut had h0 (by
      rw [hb, beq_eq_false_iff_ne]
      intro e
      apply hz
      rw [hc, List.getD_cons_zero]
      apply UInt8.toNat_inj.1
      have h48 : (48 : UInt8).toNat = 48 := rfl
      omega)
    simpa using this
  · have := parse_yes2 t t false w (by omega) hcut had h0 (by
      rw [hb]
      rw [hz] at hc
      cases hc
      rfl) (by rw [Lib.toList_data, hz]; rfl)
    simpa using this

/-- what integer answers -/
def NPost (w : World) (z : Int) (e : Ending) (w' : World) : Prop := Tn No w w' ∧ ∃ ng sa sn sc, e = .returned (.agg #[.bool ng, .slice sa sn sc]) ∧ NumAt w' w.heap.size ng (.slice sa sn sc) z

set_option maxHeartbeats 2000000 in
set_option maxRecDepth 100000 in
theorem integer_raw (s d : ByteArray) (ng : Bool) (w : World) (hs : s.size ≤ 65536) (hds : d.size ≤ 65536) (hcut : ∀ w, Calls Tryz.prog 80 #[.string s, .string ⟨#[126]⟩] w fun e w' => e = .returned (.tuple #[.string d, .bool ng]) ∧ w' = w)
    (hd : d.data.toList.all isDig = true) (h0 : 0 < d.size) : Calls Tryz.prog 72 #[.string s] w (NPost w (if ng = true then -(dval d.data.toList : Int) else (dval d.data.toList : Int))) := by
  obtain ⟨m, hm⟩ : ∃ m, d.size = m + 1 := ⟨d.size - 1, by omega⟩
  have hA : (d.extract 0 m).data.toList = d.data.toList.take m := by rw [ext_list, List.drop_zero]
  have hB : (d.extract m (m + 1)).data.toList = d.data.toList.drop m := by rw [← hm, ext_rest]
  have hAs : (d.extract 0 m).size ≤ 65536 := by rw [ext_size2 d 0 m (by omega)]; omega
  obtain ⟨t, ht⟩ : ∃ t, strOf (tl0 (d.extract 0 m).data.toList) ++ d.extract m (m + 1) = t := ⟨_, rfl⟩
  have htl : t.data.toList = tl0 (d.data.toList.take m) ++ d.data.toList.drop m := by
    rw [← ht, ByteArray.data_append, Array.toList_append, hA, hB]
    rfl
  have hdl : (d.data.toList.drop m).length = 1 := by rw [List.length_drop, ← Lib.size_eq]; omega
  obtain ⟨x, hx⟩ := List.length_eq_one_iff.1 hdl
  have hsp : d.data.toList = d.data.toList.take m ++ [x] := by rw [← hx, List.take_append_drop]
  have hdd := hd
  rw [hsp, List.all_append, Bool.and_eq_true] at hdd
  have hval : dval t.data.toList = dval d.data.toList := by rw [htl, tl0_dval, List.take_append_drop]
  have htd : t.data.toList.all isDig = true := by rw [htl, hx, List.all_append, Bool.and_eq_true]; exact ⟨tl0_dig _ hdd.1, hdd.2⟩
  have hts : t.size ≤ 65536 := by
    rw [Lib.size_eq, htl, List.length_append, hdl]
    have := tl0_le (d.data.toList.take m)
    rw [List.length_take, ← Lib.size_eq] at this
    omega
  have hpz := fun w => parse_dig t w hts htd (by rw [htl, hx]; simp) (by
    rw [htl, hx]
    cases hq : tl0 (d.data.toList.take m) with
    | nil =>
      by_cases h48 : x = 48
      · right; rw [h48]; rfl
      · left; simpa using h48
    | cons c r =>
      left
      have := tl0_first (d.data.toList.take m) (by rw [hq]; simp)
      rw [hq] at this
      simpa using this)
  rw [hval] at hpz
  have hAz : (strOf (tl0 (d.extract 0 m).data.toList)).size ≤ 65536 := by
    have h1 := tl0_le (d.extract 0 m).data.toList
    rw [← Lib.size_eq] at h1
    rw [strOf_size]
    omega
  have htr := fun w => trimLeft_raw (d.extract 0 m) w hAs
  obtain ⟨A, hA'⟩ : ∃ A, strOf (tl0 (d.extract 0 m).data.toList) = A := ⟨_, rfl⟩
  rw [hA'] at htr ht hAz
  rw [← ht] at hpz
  have HC := hid hcut
  have HTR := hid htr
  have HP := hid hpz
  obtain ⟨Z, hZ⟩ : ∃ Z : Int, (dval d.data.toList : Int) = Z := ⟨_, rfl⟩
  rw [hZ] at HP ⊢
  have hBs : (d.extract m (m + 1)).size = 1 := by rw [ext_size2 d m (m + 1) (by omega)]; omega
  clear hcut hpz hts htd hval hdd hsp hx hdl htl hAs hA hB hd hZ h0 htr hA'
  clear ht
  cases ng with
  | false =>
    rw [if_neg (by simp)]
    go_enter Tryz.func72, Tryz.ntmps72
    go_wp2_with (first
      | (go_at_call 80; refine (HC.out _).mono ?_; rintro e w' ⟨rfl, rfl⟩)
      | (go_at_call 81; refine (HTR.out _).mono ?_; rintro e w' ⟨rfl, rfl⟩)
      | (go_at_call 82; refine (HP.out _).mono ?_; rintro e w1 ⟨s1, a1, l1, rfl, ho1, hn1, hs1, hi1, hk1, hg1⟩; have HO1 := hid ho1; have HI1 := hid hi1; have ht1 := Tn.ofgb hg1; clear hg1 hi1 ho1; obtain ⟨k2, f2, hz2⟩ := one_block ht1; have k20 := k2 0; have k21 := k2 1; simp at k20 k21; have HT1 := hid ht1; have hzA := Nat.lt_of_lt_of_le (Nat.lt_succ_self _) hz2; clear k2 ht1))
    refine bodyPost_ret (v := .agg #[.bool s1, .slice a1 l1.length l1.length]) (by obtain ⟨q0, q1⟩ := set2_cells (u0 := .bool s1) (u1 := .slice a1 l1.length l1.length) k20 k21; simp [results, Tryz.results72, go_sem, q0, q1, hzA]) rfl ?_
    refine ⟨(set2_tn HT1.out).alloc _, _, _, _, _, rfl, a1, l1, rfl, ?_, hn1, hs1, HI1.out⟩
    refine (HO1.out.blocks (w' := ((w1.setCell ⟨w.heap.size, 0, none⟩ (.bool s1)).setCell ⟨w.heap.size, 1, none⟩ (.slice a1 l1.length l1.length)).alloc (.cells #[.bool s1, .slice a1 l1.length l1.length] 35)) (by simp) (fun b hb hb2 => ?_)).mono (by simp)
    have hb' : w.heap.size + 1 ≤ b := by simpa using hb
    rw [Below.heap_alloc _ _ _ (by simpa using hb2), Below.heap_setCell _ _ _ _ (by show b ≠ w.heap.size; omega), Below.heap_setCell _ _ _ _ (by show b ≠ w.heap.size; omega)]
  | true =>
    rw [if_pos rfl]
    go_enter Tryz.func72, Tryz.ntmps72
    go_wp2_with (first
      | (go_at_call 80; refine (HC.out _).mono ?_; rintro e w' ⟨rfl, rfl⟩)
      | (go_at_call 81; refine (HTR.out _).mono ?_; rintro e w' ⟨rfl, rfl⟩)
      | (go_at_call 82; refine (HP.out _).mono ?_; rintro e w1 ⟨s1, a1, l1, rfl, ho1, hn1, hs1, hi1, hk1, hg1⟩; have HO1 := hid ho1; have HI1 := hid hi1; have ht1 := Tn.ofgb hg1; clear hg1 hi1 ho1; obtain ⟨k2, f2, hz2⟩ := one_block ht1; have k20 := k2 0; have k21 := k2 1; simp at k20 k21; have HT1 := hid ht1; have hzA := Nat.lt_of_lt_of_le (Nat.lt_succ_self _) hz2; clear k2 ht1)
      | (go_at_call 83; refine (neg_raw s1 a1 _ _ l1 _ (HO1.out.sl.grown (Tn.no ((Tn.refl No w1).alloc _)))).mono ?_; rintro e w2 ⟨s2, a2, l2, rfl, ho2, hn2, hs2, hi2, hk2, hnl2, hg2⟩; have HO2 := hid ho2; have HI2 := hid hi2; have ht2 := (HT1.out.alloc _).thenNo (Tn.ofgb hg2); clear hg2 hi2 ho2; obtain ⟨k3, f3, hz3⟩ := one_block ht2; have k30 := k3 0; have k31 := k3 1; simp at k30 k31; have HT2 := hid ht2; clear k3 ht2))
    refine bodyPost_ret (v := .agg #[.bool s2, .slice a2 l2.length l2.length]) (by obtain ⟨q0, q1⟩ := set2_cells (u0 := .bool s2) (u1 := .slice a2 l2.length l2.length) k30 k31; simp [results, Tryz.results72, go_sem, q0, q1]) rfl ?_
    refine ⟨set2_tn HT2.out, _, _, _, _, rfl, a2, l2, rfl, ?_, hn2, hs2, by rw [HI2.out, HI1.out]⟩
    refine (HO2.out.blocks (w' := (w2.setCell ⟨w.heap.size, 0, none⟩ (.bool s2)).setCell ⟨w.heap.size, 1, none⟩ (.slice a2 l2.length l2.length)) (by simp) (fun b hb hb2 => ?_)).mono (by simp; omega)
    have hb' : w1.heap.size + 1 ≤ b := by simpa using hb
    rw [Below.heap_setCell _ _ _ _ (by show b ≠ w.heap.size; omega), Below.heap_setCell _ _ _ _ (by show b ≠ w.heap.size; omega)]
end Go.Proofs.YtcmhfeeocehlaaaGreatDoor
