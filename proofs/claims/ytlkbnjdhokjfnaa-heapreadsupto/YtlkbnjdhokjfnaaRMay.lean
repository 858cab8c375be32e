/-
  heap's reference: rows, numbers; may a thing be?
-/
import Derived.Test.YtlkbnjdhokjfnaaHPutA
import Derived.Deep.RegionHeld3
import Derived.BigQuiet
namespace Go.Proofs.Ytlkbnjdhokjfnaa
set_option linter.unusedSimpArgs false
set_option linter.unusedVariables false
open Go.RowKit
attribute [local go_sem ↓] Go.wp_at_zero Go.wp_at_succ

theorem rrows_raw (k : Int) (w : World) : Calls Try.prog 33 #[.int .i64 k] w fun e w' => e = .returned (.bool (Hp.isRow k)) ∧ w' = w := by
  by_cases h2 : k = 2
  · subst h2
    go_enter Try.func33, Try.ntmps33
    go_wp2
    go_ret
    exact ⟨rfl, rfl⟩
  by_cases h7 : k = 7
  · subst h7
    go_enter Try.func33, Try.ntmps33
    go_wp2
    go_ret
    exact ⟨rfl, rfl⟩
  by_cases h3 : k = 3
  · subst h3
    go_enter Try.func33, Try.ntmps33
    go_wp2
    go_ret
    exact ⟨rfl, rfl⟩
  have d2 : (k == 2) = false := by simpa using h2
  have d7 : (k == 7) = false := by simpa using h7
  have d3 : (k == 3) = false := by simpa using h3
  go_enter Try.func33, Try.ntmps33
  go_wp2
  go_ret
  exact ⟨ret_bool (by simp only [Hp.isRow, d2, d7, d3]; simp), rfl⟩
theorem rrows_at {k : Int} {b : Bool} (h : Hp.isRow k = b) (w : World) : Calls Try.prog 33 #[.int .i64 k] w fun e w' => e = .returned (.bool b) ∧ w' = w := by
  rw [← h]; exact rrows_raw k w

theorem num_drop (l : List UInt8) (j : Nat) (h : j < l.length) : Hp.num (l.drop j) = l[j].toNat + 256 * Hp.num (l.drop (j + 1)) := by
  rw [List.drop_eq_getElem_cons h]; rfl

set_option maxHeartbeats 1000000 in
theorem number_raw (s : ByteArray) (w : World) (hs : s.size ≤ 8) : Calls Try.prog 55 #[.string s] w fun e w' => e = .returned (.int .u64 (Hp.num s.data.toList : Int)) ∧ w' = w := by
  obtain ⟨n, hn⟩ : ∃ n, s.size = n := ⟨_, rfl⟩
  have hl : s.data.toList.length = n := by rw [← hn]; simp
  have HL := hid hl
  have HN := hid hn
  clear hl
  rw [hn] at hs
  go_enter Try.func55, Try.ntmps55
  go_wp2
  go_loopw [3, 4] (fun x i wr => ∃ j : Nat, j ≤ n ∧ i = .int .i64 ((j : Int) - 1) ∧ x = .int .u64 (Hp.num (s.data.toList.drop j) : Int) ∧ wr = w) (fun _ i _ => (intOf i + 1).toNat)
  case atStart => exact ⟨n, by omega, rfl, by rw [List.drop_of_length_le (by have := HL.out; omega)]; rfl, rfl⟩
  case round =>
    obtain ⟨j, hj, rfl, rfl, rfl⟩ := hrel
    rcases j with _ | m
    · go_wp2
      go_ret
      exact ⟨rfl, rfl⟩
    · have hml : m < s.data.toList.length := by have := HL.out; omega
      have HE := hid (num_drop _ m hml)
      have hlt := Hp.num_lt (s.data.toList.drop (m + 1))
      have hdl : (s.data.toList.drop (m + 1)).length ≤ 7 := by simp; have := HN.out; omega
      have hp : 256 ^ (s.data.toList.drop (m + 1)).length ≤ 256 ^ 7 := Nat.pow_le_pow_right (by omega) hdl
      have hb := (s.data.toList[m]).toNat_lt
      have h1 : Hp.num (s.data.toList.drop (m + 1)) < 72057594037927936 := by omega
      have e0 : ((m + 1 : Nat) : Int) - 1 = (m : Int) := by omega
      clear hlt hdl hp
      generalize Hp.num (s.data.toList.drop (m + 1)) = c0 at *
      rw [e0]
      go_wp2
      go_roundw
      case rel =>
        refine ⟨m, by omega, rfl, ?_, trivial⟩
        rw [HE.out]
        have e1 : s[m]'(by have := HN.out; omega) = s.data.toList[m] := rfl
        rw [e1]
        generalize (s.data.toList[m]).toNat = b0 at *
        simp [IntKind.wrap, IntKind.bits, IntKind.signed]
        omega
      case measure => simp [intOf]

set_option maxHeartbeats 2000000 in
set_option maxRecDepth 100000 in
theorem rmb_row0 (k tag : Int) (s : ByteArray) (a : Option Addr) (n c : Nat) (w : World) (hk : Hp.isRow k = true) (hn : 0 < n) :
    Calls Try.prog 31 #[.agg #[.int .i64 k, .int .i64 tag, .string s, .slice a n c]] w fun e w' => e = .returned (.bool false) ∧ Tn No w w' := by
  have HB := hid (fun u => rrows_at hk u)
  have i0 : (0 : Int) < (n : Int) := by omega
  have HT : Hid (∀ o, Tn No w (w.alloc o)) := hid (fun o => (Tn.refl No w).alloc o)
  clear hk hn
  go_enter Try.func31, Try.ntmps31
  go_wp2_with (go_at_call 33; refine (HB.out _).mono ?_; rintro e w' ⟨rfl, rfl⟩)
  go_ret
  exact ⟨rfl, HT.out _⟩

set_option maxHeartbeats 2000000 in
set_option maxRecDepth 100000 in
theorem rmb_not0 (k tag : Int) (s : ByteArray) (a : Option Addr) (n c : Nat) (w : World) (hk : Hp.isRow k = false) (hn : 0 < s.size) :
    Calls Try.prog 31 #[.agg #[.int .i64 k, .int .i64 tag, .string s, .slice a n c]] w fun e w' => e = .returned (.bool false) ∧ Tn No w w' := by
  have HB := hid (fun u => rrows_at hk u)
  have i0 : (0 : Int) < (s.size : Int) := by omega
  have HT : Hid (∀ o, Tn No w (w.alloc o)) := hid (fun o => (Tn.refl No w).alloc o)
  clear hk hn
  go_enter Try.func31, Try.ntmps31
  go_wp2_with (go_at_call 33; refine (HB.out _).mono ?_; rintro e w' ⟨rfl, rfl⟩)
  go_ret
  exact ⟨rfl, HT.out _⟩

set_option maxHeartbeats 8000000 in
set_option maxRecDepth 100000 in
theorem rmb_big (tag : Int) (s : ByteArray) (a : Option Addr) (c : Nat) (w : World) (hs : s.size ≤ 1073741824) :
    Calls Try.prog 31 #[.agg #[.int .i64 3, .int .i64 tag, .string s, .slice a 0 c]] w fun e w' => e = .returned (.bool (mayR 3 tag s 0)) ∧ Tn No w w' := by
  have HT : Hid (∀ o, Tn No w (w.alloc o)) := hid (fun o => (Tn.refl No w).alloc o)
  have HB := hid (fun u => rrows_at (k := 3) (b := true) rfl u)
  have hl : s.data.toList.length = s.size := by simp
  have HM : Hid (mayR 3 tag s 0 = decide (0 ≤ tag ∧ tag ≤ 1 ∧ 8 ≤ s.size ∧ s.size % 4 = 0 ∧ Hp.num (s.data.toList.drop (s.size - 4)) ≠ 0 ∧ (8 < s.size ∨ 4611686018427387903 + tag < (Hp.num s.data.toList : Int)))) := by
    apply hid
    simp only [mayR, Hp.mayBe, Hp.isRow, hl]
    simp
  obtain ⟨r, hr⟩ : ∃ r, mayR 3 tag s 0 = r := ⟨_, rfl⟩
  rw [hr]
  rw [hr] at HM
  clear hr
  by_cases ht : 0 ≤ tag ∧ tag ≤ 1
  · obtain ⟨ht1, ht2⟩ := ht
    by_cases h8 : 8 ≤ s.size
    · have i8 : (8 : Int) ≤ (s.size : Int) := by omega
      by_cases h4 : s.size % 4 = 0
      · have i4 : ((s.size : Int) % 4 == 0) = true := by simp; omega
        have i4' : (s.size : Int) % 4 = 0 := by omega
        have i3 : (4 : Int) ≤ (s.size : Int) ∧ (s.size : Int) - 4 ≤ (s.size : Int) := by omega
        have he : (s.extract (s.size - 4) s.size).data.toList = s.data.toList.drop (s.size - 4) := ext_list s _
        have hsz : (s.extract (s.size - 4) s.size).size = 4 := by simp; omega
        have HN := hid (fun u => number_raw (s.extract (s.size - 4) s.size) u (by omega))
        rw [he] at HN
        obtain ⟨q, hq⟩ : ∃ q, Hp.num (s.data.toList.drop (s.size - 4)) = q := ⟨_, rfl⟩
        rw [hq] at HN HM
        clear he hsz hq
        by_cases hq0 : q = 0
        · subst hq0
          obtain rfl : r = false := by rw [HM.out]; simp
          clear HM h8 h4 hl
          go_enter Try.func31, Try.ntmps31
          go_wp2_with (first
            | (go_at_call 33; refine (HB.out _).mono ?_; rintro e w' ⟨rfl, rfl⟩)
            | (go_at_call 55; refine (HN.out _).mono ?_; rintro e w' ⟨rfl, rfl⟩))
          go_ret
          exact ⟨rfl, HT.out _⟩
        · have hqd : ((q : Int) == 0) = false := by simpa using hq0
          by_cases h9 : 8 < s.size
          · obtain rfl : r = true := by rw [HM.out]; simp; exact ⟨ht1, ht2, h8, h4, hq0, .inl h9⟩
            have i9 : (8 : Int) < (s.size : Int) := by omega
            clear HM h8 h4 hl h9
            go_enter Try.func31, Try.ntmps31
            go_wp2_with (first
              | (go_at_call 33; refine (HB.out _).mono ?_; rintro e w' ⟨rfl, rfl⟩)
              | (go_at_call 55; refine (HN.out _).mono ?_; rintro e w' ⟨rfl, rfl⟩))
            go_quiet (fail)
            go_wp2_with fail
            go_ret
            exact ⟨rfl, (by repeat (first | exact Tn.refl _ _ | apply Tn.drew | apply Tn.drewN | apply Tn.alloc | (refine Tn.then ?_ (by assumption)) | (refine Tn.thenNo ?_ (by assumption))))⟩
          · have h8' : s.size = 8 := by omega
            have HN2 := hid (fun u => number_raw s u (by omega))
            have hlt := Hp.num_lt s.data.toList
            rw [hl, h8'] at hlt
            obtain ⟨q2, hq2⟩ : ∃ q, Hp.num s.data.toList = q := ⟨_, rfl⟩
            rw [hq2] at HN2 HM hlt
            have i9 : (s.size : Int) ≤ 8 := by omega
            have HE : Hid (r = decide (4611686018427387903 + tag < (q2 : Int))) := by
              apply hid
              rw [HM.out]
              simp only [decide_eq_decide]
              constructor
              · rintro ⟨_, _, _, _, _, h | h⟩
                · omega
                · exact h
              · intro h
                exact ⟨ht1, ht2, h8, h4, hq0, .inr h⟩
            clear HM h8 h4 hl h9 hq2 h8'
            go_enter Try.func31, Try.ntmps31
            go_wp2_with (first
              | (go_at_call 33; refine (HB.out _).mono ?_; rintro e w' ⟨rfl, rfl⟩)
              | (go_at_call 55; refine (HN.out _).mono ?_; rintro e w' ⟨rfl, rfl⟩))
            go_quiet (first | (go_at_call 55; refine Calls.quiet_of_same (HN2.out _)))
            go_wp2_with fail
            go_ret
            refine ⟨ret_bool ?_, (by repeat (first | exact Tn.refl _ _ | apply Tn.drew | apply Tn.drewN | apply Tn.alloc | (refine Tn.then ?_ (by assumption)) | (refine Tn.thenNo ?_ (by assumption))))⟩
            rw [HE.out, Bool.eq_iff_iff]
            simp [IntKind.wrap, IntKind.bits, IntKind.signed]
            omega
      · have i4 : ((s.size : Int) % 4 != 0) = true := by simp; omega
        obtain rfl : r = false := by rw [HM.out]; simp; intros; omega
        clear HM h4 hl
        go_enter Try.func31, Try.ntmps31
        go_wp2_with (go_at_call 33; refine (HB.out _).mono ?_; rintro e w' ⟨rfl, rfl⟩)
        go_ret
        exact ⟨rfl, HT.out _⟩
    · have i8 : (s.size : Int) < 8 := by omega
      obtain rfl : r = false := by rw [HM.out]; simp; intros; omega
      clear HM h8 hl
      go_enter Try.func31, Try.ntmps31
      go_wp2_with (go_at_call 33; refine (HB.out _).mono ?_; rintro e w' ⟨rfl, rfl⟩)
      go_ret
      exact ⟨rfl, HT.out _⟩
  · obtain rfl : r = false := by rw [HM.out]; simp; intros; omega
    clear HM hl
    by_cases h1 : tag < 0
    · clear ht
      go_enter Try.func31, Try.ntmps31
      go_wp2_with (go_at_call 33; refine (HB.out _).mono ?_; rintro e w' ⟨rfl, rfl⟩)
      go_ret
      exact ⟨rfl, HT.out _⟩
    · have h2 : 1 < tag := by omega
      have h3 : 0 ≤ tag := by omega
      clear ht h1
      go_enter Try.func31, Try.ntmps31
      go_wp2_with (go_at_call 33; refine (HB.out _).mono ?_; rintro e w' ⟨rfl, rfl⟩)
      go_ret
      exact ⟨rfl, HT.out _⟩

set_option maxHeartbeats 8000000 in
set_option maxRecDepth 100000 in
theorem rmb_row (k tag : Int) (s : ByteArray) (a : Option Addr) (c : Nat) (w : World) (hk : k = 2 ∨ k = 7 ∨ k = 4) :
    Calls Try.prog 31 #[.agg #[.int .i64 k, .int .i64 tag, .string s, .slice a 0 c]] w fun e w' => e = .returned (.bool (mayR k tag s 0)) ∧ Tn No w w' := by
  have HT : Hid (∀ o, Tn No w (w.alloc o)) := hid (fun o => (Tn.refl No w).alloc o)
  have HB := hid (fun u => rrows_at (k := k) (b := true) (by rcases hk with rfl | rfl | rfl <;> rfl) u)
  by_cases ht : tag = 0
  · subst ht
    rcases hk with rfl | rfl | rfl
    all_goals
      go_enter Try.func31, Try.ntmps31
      go_wp2_with (go_at_call 33; refine (HB.out _).mono ?_; rintro e w' ⟨rfl, rfl⟩)
      go_ret
      exact ⟨ret_bool (by rw [Bool.eq_iff_iff]; simp [mayR, Hp.mayBe, Hp.isRow]; try omega), HT.out _⟩
  · have ht2 : (tag == 0) = false := by simpa using ht
    rcases hk with rfl | rfl | rfl
    all_goals
      go_enter Try.func31, Try.ntmps31
      go_wp2_with (go_at_call 33; refine (HB.out _).mono ?_; rintro e w' ⟨rfl, rfl⟩)
      go_ret
      exact ⟨ret_bool (by rw [Bool.eq_iff_iff]; simp [mayR, Hp.mayBe, Hp.isRow, ht]; try omega), HT.out _⟩

set_option maxHeartbeats 8000000 in
set_option maxRecDepth 100000 in
theorem rmb_not (k tag : Int) (a : Option Addr) (n c : Nat) (w : World) (hk : k = 1 ∨ k = 5 ∨ k = 6 ∨ k = 8) :
    Calls Try.prog 31 #[.agg #[.int .i64 k, .int .i64 tag, .string ⟨#[]⟩, .slice a n c]] w fun e w' => e = .returned (.bool (mayR k tag ⟨#[]⟩ n)) ∧ Tn No w w' := by
  have HT : Hid (∀ o, Tn No w (w.alloc o)) := hid (fun o => (Tn.refl No w).alloc o)
  have e0 : (ByteArray.mk #[]).size = 0 := rfl
  have HB := hid (fun u => rrows_at (k := k) (b := false) (by rcases hk with rfl | rfl | rfl | rfl <;> rfl) u)
  rcases hk with rfl | rfl | rfl | rfl
  · by_cases ht : 0 ≤ tag
    all_goals
      try rw [Int.not_le] at ht
      go_enter Try.func31, Try.ntmps31
      go_wp2_with (go_at_call 33; refine (HB.out _).mono ?_; rintro e w' ⟨rfl, rfl⟩)
      go_ret
      exact ⟨ret_bool (by rw [Bool.eq_iff_iff]; simp [mayR, Hp.mayBe, Hp.isRow]; try omega), HT.out _⟩
  · by_cases ht : tag = 0
    · subst ht
      go_enter Try.func31, Try.ntmps31
      go_wp2_with (go_at_call 33; refine (HB.out _).mono ?_; rintro e w' ⟨rfl, rfl⟩)
      go_ret
      exact ⟨ret_bool (by rw [Bool.eq_iff_iff]; simp [mayR, Hp.mayBe, Hp.isRow]; try omega), HT.out _⟩
    · have ht2 : (tag == 0) = false := by simpa using ht
      go_enter Try.func31, Try.ntmps31
      go_wp2_with (go_at_call 33; refine (HB.out _).mono ?_; rintro e w' ⟨rfl, rfl⟩)
      go_ret
      exact ⟨ret_bool (by rw [Bool.eq_iff_iff]; simp [mayR, Hp.mayBe, Hp.isRow, ht]; try omega), HT.out _⟩
  · go_enter Try.func31, Try.ntmps31
    go_wp2_with (go_at_call 33; refine (HB.out _).mono ?_; rintro e w' ⟨rfl, rfl⟩)
    go_ret
    exact ⟨ret_bool (by rw [Bool.eq_iff_iff]; simp [mayR, Hp.mayBe, Hp.isRow]; try omega), HT.out _⟩
  · by_cases ht : 0 ≤ tag
    all_goals
      try rw [Int.not_le] at ht
      go_enter Try.func31, Try.ntmps31
      go_wp2_with (go_at_call 33; refine (HB.out _).mono ?_; rintro e w' ⟨rfl, rfl⟩)
      go_ret
      exact ⟨ret_bool (by rw [Bool.eq_iff_iff]; simp [mayR, Hp.mayBe, Hp.isRow]; try omega), HT.out _⟩

set_option maxHeartbeats 8000000 in
set_option maxRecDepth 100000 in
theorem rmb_none (k tag : Int) (a : Option Addr) (n c : Nat) (w : World) (h1 : k ≠ 1) (h2 : k ≠ 2) (h3 : k ≠ 3) (h4 : k ≠ 4) (h5 : k ≠ 5) (h6 : k ≠ 6) (h7 : k ≠ 7) (h8 : k ≠ 8) :
    Calls Try.prog 31 #[.agg #[.int .i64 k, .int .i64 tag, .string ⟨#[]⟩, .slice a n c]] w fun e w' => e = .returned (.bool false) ∧ Tn No w w' := by
  have HT : Hid (∀ o, Tn No w (w.alloc o)) := hid (fun o => (Tn.refl No w).alloc o)
  have e0 : (ByteArray.mk #[]).size = 0 := rfl
  have d1 : (k == 1) = false := by simpa using h1
  have d2 : (k == 2) = false := by simpa using h2
  have d3 : (k == 3) = false := by simpa using h3
  have d4 : (k == 4) = false := by simpa using h4
  have d5 : (k == 5) = false := by simpa using h5
  have d6 : (k == 6) = false := by simpa using h6
  have d7 : (k == 7) = false := by simpa using h7
  have d8 : (k == 8) = false := by simpa using h8
  have HB := hid (fun u => rrows_at (k := k) (b := false) (by simp only [Hp.isRow, d2, d3, d4, d7]; rfl) u)
  clear h1 h2 h3 h4 h5 h6 h7 h8
  go_enter Try.func31, Try.ntmps31
  go_wp2_with (go_at_call 33; refine (HB.out _).mono ?_; rintro e w' ⟨rfl, rfl⟩)
  go_ret
  exact ⟨rfl, HT.out _⟩

theorem rmb_raw (k tag : Int) (s : ByteArray) (a : Option Addr) (n c : Nat) (w : World) (hs : s.size ≤ 1073741824) :
    Calls Try.prog 31 #[.agg #[.int .i64 k, .int .i64 tag, .string s, .slice a n c]] w fun e w' => e = .returned (.bool (mayR k tag s n)) ∧ Tn No w w' := by
  cases hr : Hp.isRow k with
  | true =>
    by_cases hn : 0 < n
    · rw [may_row hr hn]; exact rmb_row0 k tag s a n c w hr hn
    · obtain rfl : n = 0 := by omega
      by_cases h3 : k = 3
      · subst h3; exact rmb_big tag s a c w hs
      · exact rmb_row k tag s a c w (by simp [Hp.isRow] at hr; omega)
  | false =>
    by_cases hn : 0 < s.size
    · rw [may_not hr hn]; exact rmb_not0 k tag s a n c w hr hn
    · obtain rfl := size0 hn
      by_cases h1 : k = 1
      · exact rmb_not k tag a n c w (by omega)
      by_cases h5 : k = 5
      · exact rmb_not k tag a n c w (by omega)
      by_cases h6 : k = 6
      · exact rmb_not k tag a n c w (by omega)
      by_cases h8 : k = 8
      · exact rmb_not k tag a n c w (by omega)
      simp [Hp.isRow] at hr
      have e : mayR k tag ⟨#[]⟩ n = false := by
        simp only [mayR, Hp.mayBe]
        rw [if_neg h1, if_neg h8, if_neg (show ¬ (k = 2 ∨ k = 6 ∨ k = 7) by omega), if_neg (show ¬ k = 4 by omega), if_neg h5, if_neg (show ¬ k = 3 by omega)]
        simp
      rw [e]
      exact rmb_none k tag a n c w h1 (by omega) (by omega) (by omega) h5 h6 (by omega) h8
theorem rmb_t {t : Th} {w0 : World} (h : TA w0 t) (w : World) : Calls Try.prog 31 #[t.val] w fun e w' => e = .returned (.bool (mayT t)) ∧ Tn No w w' := by
  obtain ⟨a, c, e⟩ := h.form
  unfold Th.val
  rw [e]
  exact rmb_raw t.kind t.tag t.bytes a t.refs.length c w h.bytes
end Go.Proofs.Ytlkbnjdhokjfnaa
