/-
  Blanks and remarks.
-/
import Derived.Test.YtcmhfeeocehlaaaGreatDoorBytes
namespace Go.Proofs.YtcmhfeeocehlaaaGreatDoor
set_option linter.unusedSimpArgs false
set_option linter.unusedVariables false
open Go.RowKit Go.PlainAid
attribute [local go_sem ↓] Go.wp_at_zero Go.wp_at_succ

theorem bt_list (s : ByteArray) (k : Nat) : bt s k = ((s.data.toList.getD k 0).toNat : Int) := by
  unfold bt
  split
  · rename_i h
    have hl : k < s.data.toList.length := by simpa using h
    rw [List.getD_eq_getElem?_getD, List.getElem?_eq_getElem hl]
    rfl
  · rename_i h
    have hl : s.data.toList.length ≤ k := by simpa using h
    rw [List.getD_eq_getElem?_getD, List.getElem?_eq_none hl]
    rfl
theorem ext_list (s : ByteArray) (a b : Nat) : (s.extract a b).data.toList = (s.data.toList.take b).drop a := by
  rw [ByteArray.data_extract]
  simp [List.drop_take]
theorem ext_rest (s : ByteArray) (a : Nat) : (s.extract a s.size).data.toList = s.data.toList.drop a := by
  rw [ext_list, List.take_of_length_le (by simp)]
theorem getD_drop (l : List UInt8) (a k : Nat) : (l.drop a).getD k 0 = l.getD (a + k) 0 := by
  simp [List.getD_eq_getElem?_getD]
theorem toNat_eq {c : UInt8} {n : Nat} (hn : n < 256) : ((c.toNat : Int) = (n : Int)) ↔ c = UInt8.ofNat n := by
  constructor
  · intro h
    apply UInt8.toNat_inj.1
    rw [UInt8.toNat_ofNat']
    omega
  · intro h
    rw [h, UInt8.toNat_ofNat']
    omega
theorem pre2_list (l : List UInt8) (x y : Nat) (hx : 0 < x) (hx' : x < 256) (hy : 0 < y) (hy' : y < 256) :
    (decide (2 ≤ l.length) && (l.take 2 == [UInt8.ofNat x, UInt8.ofNat y])) = ((((l.getD 0 0).toNat : Int) == (x : Int)) && (((l.getD 1 0).toNat : Int) == (y : Int))) := by
  match l with
  | [] => simp; omega
  | [c] => simp; omega
  | c :: d :: r =>
    rw [Bool.eq_iff_iff]
    simp only [List.length_cons, List.take_succ_cons, List.take_zero, Bool.and_eq_true, beq_iff_eq, List.getD_cons_zero, List.getD_cons_succ, toNat_eq hx', toNat_eq hy', List.cons.injEq, and_true, decide_eq_true_iff]
    exact ⟨fun h => h.2, fun h => ⟨by omega, h⟩⟩

set_option maxHeartbeats 1000000 in
theorem hasPrefix2 (s t : ByteArray) (x y : Nat) (w : World) (hx : 0 < x) (hx' : x < 256) (hy : 0 < y) (hy' : y < 256) (ht : t = ⟨#[UInt8.ofNat x, UInt8.ofNat y]⟩) (hs : s.size ≤ 9223372036854775807) :
    Calls Tryz.prog 52 #[.string s, .string t] w fun e w' => e = .returned (.bool (bt s 0 == (x : Int) && bt s 1 == (y : Int))) ∧ w' = w := by
  have hl := pre2_list s.data.toList x y hx hx' hy hy'
  rw [← bt_list, ← bt_list] at hl
  have h2 : t.size = 2 := by rw [ht]; rfl
  have h3 : t.toList = [UInt8.ofNat x, UInt8.ofNat y] := by rw [ht, Lib.toList_data]
  obtain ⟨b, hb⟩ : ∃ b, (bt s 0 == (x : Int) && bt s 1 == (y : Int)) = b := ⟨_, rfl⟩
  rw [hb] at hl ⊢
  have HL := hid hl
  have HT := hid h3
  clear hl ht h3 hb
  go_enter Tryz.func52, Tryz.ntmps52
  go_wp2
  · have h : (2 : Int) ≤ s.size := by assumption
    go_ret
    refine ⟨ret_bool ?_, rfl⟩
    rw [← HL.out, HT.out, Lib.toList_data, ext_list, List.drop_zero, show decide (2 ≤ s.data.toList.length) = true by simp; omega, Bool.true_and]
  · have h : (s.size : Int) < 2 := by assumption
    go_ret
    refine ⟨ret_bool ?_, rfl⟩
    rw [← HL.out, show decide (2 ≤ s.data.toList.length) = false by simp; omega, Bool.false_and]

theorem bt_ext (s : ByteArray) (a k : Nat) : bt (s.extract a s.size) k = bt s (a + k) := by
  rw [bt_list, bt_list, ext_rest, getD_drop]
theorem ext_size (s : ByteArray) (a : Nat) : (s.extract a s.size).size = s.size - a := by
  rw [Lib.size_eq, ext_rest, List.length_drop, ← Lib.size_eq]

set_option maxHeartbeats 1000000 in
theorem opens_raw (s : ByteArray) (a : Nat) (w : World) (hs : s.size ≤ 9223372036854775807) (ha : a ≤ s.size) :
    Calls Tryz.prog 23 #[.string s, .int .i64 (a : Int)] w fun e w' => e = .returned (.bool (opens s a)) ∧ w' = w := by
  have hz := ext_size s a
  have h0 := bt_ext s a 0
  have h1 := bt_ext s a 1
  have hp := fun w => hasPrefix2 (s.extract a s.size) ⟨#[40, 42]⟩ 40 42 w (by decide) (by decide) (by decide) (by decide) rfl (by omega)
  rw [h0, h1] at hp
  have HP := hid hp
  clear hp h0 h1 hz
  go_enter Tryz.func23, Tryz.ntmps23
  go_wp2_with (go_at_call 52; refine (HP.out _).mono ?_; rintro e w' ⟨rfl, rfl⟩)
  go_ret
  exact ⟨rfl, rfl⟩

/-- what is answered of a place that may not be there -/
def optRes (o : Option Nat) : Value := match o with | none => .tuple #[.int .i64 0, .bool false] | some b => .tuple #[.int .i64 (b : Int), .bool true]

set_option maxHeartbeats 1000000 in
set_option maxRecDepth 100000 in
theorem remark_raw (s : ByteArray) (a : Nat) (w : World) (hs : s.size ≤ 9223372036854775800) (ho : opens s a = true) :
    Calls Tryz.prog 24 #[.string s, .int .i64 (a : Int)] w fun e w' => e = .returned (optRes (rem s a 0)) ∧ w' = w := by
  have hal := opens_lt ho
  have HO := hid ho
  clear ho
  obtain ⟨R, hR⟩ : ∃ R, rem s a 0 = R := ⟨_, rfl⟩
  rw [hR]
  have HR := hid hR
  clear hR
  go_enter Tryz.func24, Tryz.ntmps24
  go_wp2_with fail
  go_loop [1, 6] (fun i dp => ∃ k d : Nat, k ≤ s.size ∧ d ≤ k ∧ i = .int .i64 (k : Int) ∧ dp = .int .i64 (d : Int) ∧ Hid (rem s k d = R) ∧ (d = 0 → k = a)) (fun i _ => s.size - (intOf i).toNat)
  case atStart => exact ⟨a, 0, by omega, by omega, rfl, rfl, HR, fun _ => rfl⟩
  case round =>
    obtain ⟨k, d, hk, hd, rfl, rfl, HP, h0⟩ := hrel
    by_cases hlt : k < s.size
    · have hko := fun w => opens_raw s k w (by omega) hk
      have hz := ext_size s k
      have hp := fun w => hasPrefix2 (s.extract k s.size) ⟨#[42, 41]⟩ 42 41 w (by decide) (by decide) (by decide) (by decide) rfl (by omega)
      rw [bt_ext s k 0, bt_ext s k 1] at hp
      have hp' : ∀ w, Calls Tryz.prog 52 #[.string (s.extract k s.size), .string ⟨#[42, 41]⟩] w fun e w' => e = .returned (.bool (closes s k)) ∧ w' = w := hp
      clear hp hz
      cases ho : opens s k with
      | true =>
        have HT := hid (rem_open (d := d) ho)
        have hl := opens_lt ho
        rw [ho] at hko
        have HK := hid hko
        clear hko ho hp' h0
        go_wp2_with (go_at_call 23; refine (HK.out _).mono ?_; rintro e w' ⟨rfl, rfl⟩)
        refine ⟨⟨k + 2, d + 1, hl, by omega, rfl, rfl, hid (HT.out.symm.trans HP.out), fun h => by omega⟩, ?_⟩
        simp [intOf]; omega
      | false =>
        have hd1 : 1 ≤ d := by
          rcases Nat.eq_zero_or_pos d with h | h
          · rw [h0 h, HO.out] at ho; cases ho
          · exact h
        rw [ho] at hko
        have HK := hid hko
        cases hc : closes s k with
        | true =>
          have hl := closes_lt hc
          rw [hc] at hp'
          have HC := hid hp'
          by_cases h1 : d ≤ 1
          · obtain rfl : d = 1 := by omega
            have HT := hid (rem_shut1 ho hc h1)
            clear hko ho hp' h0 hc
            go_wp2_with (first
              | (go_at_call 23; refine (HK.out _).mono ?_; rintro e w' ⟨rfl, rfl⟩)
              | (go_at_call 52; refine (HC.out _).mono ?_; rintro e w' ⟨rfl, rfl⟩))
            go_ret2
            exact ⟨by rw [← HP.out, HT.out]; rfl, rfl⟩
          · obtain ⟨d', rfl⟩ : ∃ d', d = d' + 2 := ⟨d - 2, by omega⟩
            have HT := hid (rem_shut2 ho hc h1)
            clear hko ho hp' h0 hc
            go_wp2_with (first
              | (go_at_call 23; refine (HK.out _).mono ?_; rintro e w' ⟨rfl, rfl⟩)
              | (go_at_call 52; refine (HC.out _).mono ?_; rintro e w' ⟨rfl, rfl⟩))
            refine ⟨⟨k + 2, d' + 1, hl, by omega, rfl, by simp; omega, hid (HT.out.symm.trans HP.out), fun h => by omega⟩, ?_⟩
            simp [intOf]; omega
        | false =>
          rw [hc] at hp'
          have HC := hid hp'
          have HT := hid (rem_skip (d := d) ho hc hlt)
          obtain ⟨d', rfl⟩ : ∃ d', d = d' + 1 := ⟨d - 1, by omega⟩
          clear hko ho hp' h0 hc
          go_wp2_with (first
            | (go_at_call 23; refine (HK.out _).mono ?_; rintro e w' ⟨rfl, rfl⟩)
            | (go_at_call 52; refine (HC.out _).mono ?_; rintro e w' ⟨rfl, rfl⟩))
          refine ⟨⟨k + 1, d' + 1, by omega, by omega, rfl, rfl, hid (HT.out.symm.trans HP.out), fun h => by omega⟩, ?_⟩
          simp [intOf]; omega
    · have HT := hid (rem_end (s := s) (a := k) (d := d) (by omega))
      go_wp2_with fail
      go_ret2
      exact ⟨by rw [← HP.out, HT.out]; rfl, rfl⟩

set_option maxHeartbeats 1000000 in
set_option maxRecDepth 100000 in
theorem blanks_raw (s : ByteArray) (a : Nat) (w : World) (hs : s.size ≤ 9223372036854775800) (ha : a ≤ s.size) :
    Calls Tryz.prog 14 #[.string s, .int .i64 (a : Int)] w fun e w' => e = .returned (optRes (bl s a)) ∧ w' = w := by
  have hb := get_bt s
  obtain ⟨R, hR⟩ : ∃ R, bl s a = R := ⟨_, rfl⟩
  rw [hR]
  have HR := hid hR
  clear hR
  go_enter Tryz.func14, Tryz.ntmps14
  go_wp2_with fail
  go_loop [1] (fun i => ∃ k : Nat, k ≤ s.size ∧ i = .int .i64 (k : Int) ∧ Hid (bl s k = R)) (fun i => s.size - (intOf i).toNat)
  case atStart => exact ⟨a, ha, rfl, HR⟩
  case round =>
    obtain ⟨k, hk, rfl, HP⟩ := hrel
    by_cases hlt : k < s.size
    · have hkb := fun w => blank_raw (bt s k) w (bt_nonneg s k) (bt_le s k)
      have hko := fun w => opens_raw s k w (by omega) hk
      cases h0 : isB (bt s k) with
      | true =>
        rw [h0] at hkb
        have HB := hid hkb
        have HT := hid (bl_blank h0)
        clear hkb hko h0
        go_wp2_with (go_at_call 22; refine (HB.out _).mono ?_; rintro e w' ⟨rfl, rfl⟩)
        refine ⟨⟨k + 1, by omega, rfl, hid (HT.out.symm.trans HP.out)⟩, ?_⟩
        simp [intOf]; omega
      | false =>
        rw [h0] at hkb
        have HB := hid hkb
        cases ho : opens s k with
        | false =>
          rw [ho] at hko
          have HK := hid hko
          have HT := hid (bl_other h0 ho)
          clear hkb hko h0 ho
          go_wp2_with (first
            | (go_at_call 22; refine (HB.out _).mono ?_; rintro e w' ⟨rfl, rfl⟩)
            | (go_at_call 23; refine (HK.out _).mono ?_; rintro e w' ⟨rfl, rfl⟩))
          go_ret2
          exact ⟨by rw [← HP.out, HT.out]; rfl, rfl⟩
        | true =>
          have hrr := fun w => remark_raw s k w hs ho
          rw [ho] at hko
          have HK := hid hko
          cases hr : rem s k 0 with
          | none =>
            have HT := hid (bl_none h0 ho hr)
            rw [hr] at hrr
            have HM := hid hrr
            clear hkb hko h0 ho hr hrr
            go_wp2_with (first
              | (go_at_call 22; refine (HB.out _).mono ?_; rintro e w' ⟨rfl, rfl⟩)
              | (go_at_call 23; refine (HK.out _).mono ?_; rintro e w' ⟨rfl, rfl⟩)
              | (go_at_call 24; refine (HM.out _).mono ?_; rintro e w' ⟨rfl, rfl⟩; simp only [optRes]))
            go_ret2
            exact ⟨by rw [← HP.out, HT.out]; rfl, rfl⟩
          | some b =>
            have HT := hid (bl_some h0 ho hr)
            have hbb := rem_bound hr
            rw [hr] at hrr
            have HM := hid hrr
            clear hkb hko h0 ho hr hrr
            go_wp2_with (first
              | (go_at_call 22; refine (HB.out _).mono ?_; rintro e w' ⟨rfl, rfl⟩)
              | (go_at_call 23; refine (HK.out _).mono ?_; rintro e w' ⟨rfl, rfl⟩)
              | (go_at_call 24; refine (HM.out _).mono ?_; rintro e w' ⟨rfl, rfl⟩; simp only [optRes]))
            refine ⟨⟨b, hbb.2, rfl, hid (HT.out.symm.trans HP.out)⟩, ?_⟩
            simp [intOf]; omega
    · have HT := hid (bl_end (s := s) (a := k) (by omega))
      go_wp2_with fail
      go_ret2
      exact ⟨by rw [← HP.out, HT.out]; rfl, rfl⟩
end Go.Proofs.YtcmhfeeocehlaaaGreatDoor
