/-
  The reference's lexer: bytes, rows of bytes, short words.
-/
import Derived.Test.YtcmhfeeocehlaaaGreatDoorWordAt
namespace Go.Proofs.YtcmhfeeocehlaaaGreatDoor
set_option linter.unusedSimpArgs false
set_option linter.unusedVariables false
open Go.RowKit Go.PlainAid
attribute [local go_sem ↓] Go.wp_at_zero Go.wp_at_succ

set_option maxHeartbeats 1000000 in
theorem rat_raw (s : ByteArray) (a : Nat) (w : World) : Calls Tryz.prog 38 #[.string s, .int .i64 (a : Int)] w fun e w' => e = .returned (.int .u8 (bt s a)) ∧ w' = w := by
  have hb := get_bt s
  by_cases h : a < s.size
  · have hI : (a : Int) < (s.size : Int) := by omega
    go_enter Tryz.func38, Tryz.ntmps38
    go_wp2
    go_ret
    exact ⟨rfl, rfl⟩
  · have hI : decide ((a : Int) < (s.size : Int)) = false := by rw [decide_eq_false_iff_not]; omega
    have hI2 : s.size ≤ a := by omega
    go_enter Tryz.func38, Tryz.ntmps38
    go_wp2
    go_ret
    exact ⟨ret_int (bt_end s (by omega)).symm, rfl⟩
set_option maxHeartbeats 1000000 in
theorem rletter_raw : Says 39 isL := by
  intro c w h0 h1
  go_enter Tryz.func39, Tryz.ntmps39
  go_wp2
  all_goals (go_ret; exact ⟨ret_bool (by rw [Bool.eq_iff_iff]; simp [isL]; omega), rfl⟩)
set_option maxHeartbeats 1000000 in
theorem rdigit_raw : Says 41 isD := by
  intro c w h0 h1
  go_enter Tryz.func41, Tryz.ntmps41
  go_wp2
  all_goals (go_ret; exact ⟨ret_bool (by rw [Bool.eq_iff_iff]; simp [isD]; omega), rfl⟩)
set_option maxHeartbeats 1000000 in
theorem rnamed_raw : Says 69 isN := by
  intro c w h0 h1
  go_enter Tryz.func69, Tryz.ntmps69
  go_wp2_with (first
    | (go_at_call 39; refine (rletter_raw c _ h0 h1).mono ?_; rintro e w' ⟨rfl, rfl⟩)
    | (go_at_call 41; refine (rdigit_raw c _ h0 h1).mono ?_; rintro e w' ⟨rfl, rfl⟩))
  all_goals (go_ret; exact ⟨ret_bool (by simp [isN, *]), rfl⟩)
theorem isO_eq : ∀ n : Fin 256, isO ((n.val : Nat) : Int) = (n.val == 40 || n.val == 41 || n.val == 91 || n.val == 93 || n.val == 123 || n.val == 125 || n.val == 44 || n.val == 59 || n.val == 95) := by decide +kernel
theorem isS_eq : ∀ n : Fin 256, isS ((n.val : Nat) : Int) = (n.val == 33 || n.val == 37 || n.val == 38 || n.val == 36 || n.val == 35 || n.val == 43 || n.val == 45 || n.val == 47 || n.val == 58 || n.val == 60 || n.val == 61 || n.val == 62 || n.val == 63 || n.val == 64 || n.val == 92 || n.val == 126 || n.val == 96 || n.val == 94 || n.val == 124 || n.val == 42) := by decide +kernel
theorem isO_int {c : Int} (h0 : 0 ≤ c) (h1 : c ≤ 255) : isO c = (c == 40 || c == 41 || c == 91 || c == 93 || c == 123 || c == 125 || c == 44 || c == 59 || c == 95) := by
  obtain ⟨n, rfl⟩ : ∃ n : Nat, c = n := ⟨c.toNat, by omega⟩
  rw [isO_eq ⟨n, by omega⟩, Bool.eq_iff_iff]
  simp only [Bool.or_eq_true, beq_iff_eq]
  omega
theorem isS_int {c : Int} (h0 : 0 ≤ c) (h1 : c ≤ 255) : isS c = (c == 33 || c == 37 || c == 38 || c == 36 || c == 35 || c == 43 || c == 45 || c == 47 || c == 58 || c == 60 || c == 61 || c == 62 || c == 63 || c == 64 || c == 92 || c == 126 || c == 96 || c == 94 || c == 124 || c == 42) := by
  obtain ⟨n, rfl⟩ : ∃ n : Nat, c = n := ⟨c.toNat, by omega⟩
  rw [isS_eq ⟨n, by omega⟩, Bool.eq_iff_iff]
  simp only [Bool.or_eq_true, beq_iff_eq]
  omega
set_option maxHeartbeats 2000000 in
theorem ralone_raw : Says 46 isO := by
  intro c w h0 h1
  rw [isO_int h0 h1]
  go_enter Tryz.func46, Tryz.ntmps46
  go_wp2
  all_goals (go_ret; exact ⟨ret_bool (by simp [*]), rfl⟩)
set_option maxHeartbeats 4000000 in
theorem rsymbolic_raw : Says 47 isS := by
  intro c w h0 h1
  rw [isS_int h0 h1]
  go_enter Tryz.func47, Tryz.ntmps47
  go_wp2
  all_goals (go_ret; exact ⟨ret_bool (by simp [*]), rfl⟩)
set_option maxHeartbeats 1000000 in
set_option maxRecDepth 100000 in
theorem rdigits_raw (s : ByteArray) (a : Nat) (w : World) (hs : s.size ≤ 65536) (ha : a ≤ s.size) :
    Calls Tryz.prog 63 #[.string s, .int .i64 (a : Int)] w fun e w' => e = .returned (.int .i64 (run isD s a : Int)) ∧ w' = w := by
  have hb := get_bt s
  go_enter Tryz.func63, Tryz.ntmps63
  go_wp2_with fail
  go_loop [1] (fun i => ∃ k : Nat, k ≤ s.size ∧ i = .int .i64 (k : Int) ∧ Hid (run isD s k = run isD s a)) (fun i => s.size - (intOf i).toNat)
  case atStart => exact ⟨a, ha, rfl, hid rfl⟩
  case round =>
    obtain ⟨k, hk, rfl, HP⟩ := hrel
    by_cases hlt : k < s.size
    · by_cases hp : isD (bt s k) = true
      · have HY := hid (run_yes hlt hp)
        go_wp2_with (go_at_call 41; refine (rdigit_raw _ _ (bt_nonneg s k) (bt_le s k)).mono ?_; rintro e w' ⟨rfl, rfl⟩)
        go_round
        · exact ⟨k + 1, by omega, rfl, hid (HY.out.symm.trans HP.out)⟩
        · simp [intOf]; omega
      · have HY := hid (run_no (p := isD) (s := s) (a := k) (by simpa using hp))
        go_wp2_with (go_at_call 41; refine (rdigit_raw _ _ (bt_nonneg s k) (bt_le s k)).mono ?_; rintro e w' ⟨rfl, rfl⟩)
        go_ret
        exact ⟨ret_int (by rw [← HP.out, HY.out]), rfl⟩
    · have HY := hid (run_end (p := isD) (s := s) (a := k) (by omega))
      go_wp2_with fail
      go_ret
      exact ⟨ret_int (by rw [← HP.out, HY.out]), rfl⟩
set_option maxHeartbeats 1000000 in
set_option maxRecDepth 100000 in
theorem rnames_raw (s : ByteArray) (a : Nat) (w : World) (hs : s.size ≤ 65536) (ha : a ≤ s.size) :
    Calls Tryz.prog 45 #[.string s, .int .i64 (a : Int)] w fun e w' => e = .returned (.int .i64 (run isN s a : Int)) ∧ w' = w := by
  have hb := get_bt s
  go_enter Tryz.func45, Tryz.ntmps45
  go_wp2_with fail
  go_loop [1] (fun i => ∃ k : Nat, k ≤ s.size ∧ i = .int .i64 (k : Int) ∧ Hid (run isN s k = run isN s a)) (fun i => s.size - (intOf i).toNat)
  case atStart => exact ⟨a, ha, rfl, hid rfl⟩
  case round =>
    obtain ⟨k, hk, rfl, HP⟩ := hrel
    by_cases hlt : k < s.size
    · by_cases hp : isN (bt s k) = true
      · have HY := hid (run_yes hlt hp)
        go_wp2_with (go_at_call 69; refine (rnamed_raw _ _ (bt_nonneg s k) (bt_le s k)).mono ?_; rintro e w' ⟨rfl, rfl⟩)
        go_round
        · exact ⟨k + 1, by omega, rfl, hid (HY.out.symm.trans HP.out)⟩
        · simp [intOf]; omega
      · have HY := hid (run_no (p := isN) (s := s) (a := k) (by simpa using hp))
        go_wp2_with (go_at_call 69; refine (rnamed_raw _ _ (bt_nonneg s k) (bt_le s k)).mono ?_; rintro e w' ⟨rfl, rfl⟩)
        go_ret
        exact ⟨ret_int (by rw [← HP.out, HY.out]), rfl⟩
    · have HY := hid (run_end (p := isN) (s := s) (a := k) (by omega))
      go_wp2_with fail
      go_ret
      exact ⟨ret_int (by rw [← HP.out, HY.out]), rfl⟩
set_option maxHeartbeats 1000000 in
set_option maxRecDepth 100000 in
theorem rbad_raw (c : Int) (p : Int) (w : World) : Calls Tryz.prog 16 #[.int .i64 c, .int .i64 p] w fun e w' => e = .returned (msV c p) ∧ Tn No w w' := by
  go_enter Tryz.func16, Tryz.ntmps16
  go_wp2
  refine bodyPost_ret (v := msV c p) (by simp [results, Tryz.results16, go_sem, msV]) rfl ?_
  exact ⟨rfl, (by repeat (first | exact Tn.refl _ _ | apply Tn.drew | apply Tn.drewN | apply Tn.alloc | (refine Tn.then ?_ (by assumption)) | (refine Tn.thenNo ?_ (by assumption))))⟩
/-- the place left out -/
def Wd.z : Wd → Wd
  | .bad c p => .bad c p
  | .ok t e => .ok { t with pl := 0 } e
set_option maxHeartbeats 1000000 in
set_option maxRecDepth 100000 in
theorem rshort_raw (k : Int) (s : ByteArray) (a e : Nat) (w : World) (hs : s.size ≤ 65536) (ha : a ≤ e) (he : e ≤ s.size) :
    Calls Tryz.prog 44 #[.string s, .int .i64 (a : Int), .int .i64 (e : Int), .int .i64 k] w (WPost w (limd k s a e 64).z) := by
  obtain ⟨d, rfl⟩ : ∃ d, e = a + d := ⟨e - a, by omega⟩
  have hw : IntKind.i64.wrap (((a + d : Nat) : Int) - (a : Int)) = (d : Int) := by rw [IntKind.wrap_i64]; omega
  by_cases hd : 64 < d
  · rw [show limd k s a (a + d) 64 = .bad 32 a by unfold limd; rw [if_pos (by omega)]]
    have hdI : (64 : Int) < (d : Int) := by omega
    have HC := hid (fun w => rbad_raw 32 (a : Int) w)
    go_enter Tryz.func44, Tryz.ntmps44
    go_wp2_with (go_at_call 16; refine (HC.out _).mono ?_; rintro e w1 ⟨rfl, ht⟩; simp only [msV]; obtain ⟨⟨k1, f1⟩, ⟨k2, f2⟩, s1, s2, hz⟩ := two_blocks ht; have HS1 := hid (fun i (hi : i < 7) => s1 i hi); have HS2 := hid (fun i (hi : i < 2) => s2 i hi); clear s1 s2; have k10 := k1 0; have k11 := k1 1; have k12 := k1 2; have k13 := k1 3; have k14 := k1 4; have k15 := k1 5; have k16 := k1 6; have k20 := k2 0; have k21 := k2 1; simp at k10 k11 k12 k13 k14 k15 k16 k20 k21; clear k1 k2; have HT := hid ht; clear ht; have hzA := Nat.lt_of_lt_of_le (Nat.lt_add_of_pos_right (by decide : 0 < 2)) hz; have hzB := Nat.lt_of_lt_of_le (Nat.add_lt_add_left (by decide : 1 < 2) _) hz)
    change bodyPost _ _ _ _ _ (put9 w1 w.heap.size (w.heap.size + 1) _ _ _ _ _ _ _ _ _)
    refine put9_all (bodyPost _ _ _ _ _) (by omega) HS1.out HS2.out ?_; rintro W ⟨q0, q1, q2, q3, q4, q5, q6, r0, r1⟩ hoth hsz htn; have HTN := hid (htn w (Tn.thenNo (((Tn.refl No w).alloc _).alloc _) HT.out) (by omega) (by omega)); clear htn
    refine bodyPost_ret (v := .tuple #[noTk, .int .i64 0, msV 32 (a : Int)]) (by simp [results, Tryz.results44, go_sem, noTk, tkV, msV, q0, q1, q2, q3, q4, q5, q6, r0, r1]) rfl ?_
    exact ⟨HTN.out, _, _, _, _, _, _, _, _, _, _, _, _, rfl, rfl, rfl, rfl, rfl, rfl, rfl, rfl, rfl, rfl, rfl⟩
  · rw [show limd k s a (a + d) 64 = stands k s a (a + d) by unfold limd; rw [if_neg (by omega)]]
    have hdI : decide ((64 : Int) < (d : Int)) = false := by rw [decide_eq_false_iff_not]; omega
    have hdN : d ≤ 64 := by omega
    go_enter Tryz.func44, Tryz.ntmps44
    go_wp2_with fail
    refine bodyPost_ret (v := .tuple #[tkV k (s.extract a (a + d)) false (.slice none 0 0) 0 0 0, .int .i64 ((a + d : Nat) : Int), msV 0 0]) (by simp [results, Tryz.results44, go_sem, tkV, msV]) rfl ?_
    exact ⟨(by repeat (first | exact Tn.refl _ _ | apply Tn.drew | apply Tn.drewN | apply Tn.alloc | (refine Tn.then ?_ (by assumption)) | (refine Tn.thenNo ?_ (by assumption)))), _, _, _, _, _, _, _, _, _, _, _, _, rfl, rfl, rfl, rfl, rfl, rfl, rfl, rfl, rfl, NumAt.nil _ _⟩
end Go.Proofs.YtcmhfeeocehlaaaGreatDoor
namespace Go.Proofs.YtcmhfeeocehlaaaGreatDoor
set_option linter.unusedSimpArgs false
set_option linter.unusedVariables false
open Go.RowKit Go.PlainAid
attribute [local go_sem ↓] Go.wp_at_zero Go.wp_at_succ

/-- what is left to go through, d remarks deep -/
def bd (s : ByteArray) (i d : Nat) : Option Nat := if d = 0 then bl s i else match rem s i d with | none => none | some b => bl s b
/-- what blank answers -/
def BPost (w : World) (s : ByteArray) (o : Option Nat) (e : Ending) (w' : World) : Prop := Tn No w w' ∧ match o with
  | none => ∃ k, e = .returned (.tuple #[.int .i64 k, msV 31 (s.size : Int)])
  | some b => e = .returned (.tuple #[.int .i64 (b : Int), msV 0 0])
theorem bd_open {s : ByteArray} {i d : Nat} (h : opens s i = true) : bd s i d = bd s (i + 2) (d + 1) := by
  have hl := opens_lt h
  have hnb : isB (bt s i) = false := by
    unfold opens at h
    simp only [Bool.and_eq_true, beq_iff_eq] at h
    rw [h.1]; rfl
  by_cases hd : d = 0
  · subst hd
    unfold bd
    rw [if_pos rfl, if_neg (by omega), ← rem_open h]
    cases hr : rem s i 0 with
    | none => exact bl_none hnb h hr
    | some b => exact bl_some hnb h hr
  · unfold bd
    rw [if_neg hd, if_neg (by omega), rem_open h]
theorem bd_close {s : ByteArray} {i d : Nat} (h0 : opens s i = false) (h : closes s i = true) (hd : 0 < d) : bd s i d = bd s (i + 2) (d - 1) := by
  by_cases h1 : d = 1
  · subst h1
    unfold bd
    rw [if_neg (by omega), if_pos rfl, rem_shut1 h0 h (by omega)]
  · unfold bd
    rw [if_neg (by omega), if_neg (by omega), rem_shut2 h0 h (by omega)]
theorem bd_skip {s : ByteArray} {i d : Nat} (h0 : opens s i = false) (h : closes s i = false) (hd : 0 < d) (hi : i < s.size) : bd s i d = bd s (i + 1) d := by
  unfold bd
  rw [if_neg (by omega), if_neg (by omega), rem_skip h0 h hi]
theorem bd_blank {s : ByteArray} {i : Nat} (h : isB (bt s i) = true) : bd s i 0 = bd s (i + 1) 0 := by
  unfold bd
  rw [if_pos rfl, if_pos rfl, bl_blank h]
theorem bd_other {s : ByteArray} {i : Nat} (h0 : opens s i = false) (h : isB (bt s i) = false) : bd s i 0 = some i := by
  unfold bd
  rw [if_pos rfl, bl_other h h0]
theorem bd_end0 {s : ByteArray} : bd s s.size 0 = some s.size := by
  unfold bd
  rw [if_pos rfl, bl_end (Nat.le_refl _)]
theorem bd_end {s : ByteArray} {d : Nat} (hd : 0 < d) : bd s s.size d = none := by
  unfold bd
  rw [if_neg (by omega), rem_end (Nat.le_refl _)]
theorem opens_of {s : ByteArray} {i : Nat} {c n : Int} (h1 : bt s i = c) (h2 : bt s (i + 1) = n) : opens s i = (c == 40 && n == 42) := by unfold opens; rw [h1, h2]
theorem closes_of {s : ByteArray} {i : Nat} {c n : Int} (h1 : bt s i = c) (h2 : bt s (i + 1) = n) : closes s i = (c == 42 && n == 41) := by unfold closes; rw [h1, h2]

set_option maxHeartbeats 4000000 in
set_option maxRecDepth 100000 in
theorem rblank_raw (s : ByteArray) (a : Nat) (w : World) (hs : s.size ≤ 65536) (ha : a ≤ s.size) :
    Calls Tryz.prog 17 #[.string s, .int .i64 (a : Int)] w (BPost w s (bl s a)) := by
  have hb := get_bt s
  obtain ⟨R, hR⟩ : ∃ R, bl s a = R := ⟨_, rfl⟩
  rw [hR]
  have HR : Hid (bd s a 0 = R) := hid (by unfold bd; rw [if_pos rfl]; exact hR)
  have HAT := hid (fun k w => rat_raw s k w)
  have HBD := hid (fun w => rbad_raw 31 (s.size : Int) w)
  clear hR
  go_enter Tryz.func17, Tryz.ntmps17
  go_wp2_with fail
  go_loop [1, 6] (fun i d => ∃ k n : Nat, k ≤ s.size ∧ n ≤ k ∧ i = .int .i64 (k : Int) ∧ d = .int .i64 (n : Int) ∧ Hid (bd s k n = R)) (fun i _ => s.size - (intOf i).toNat)
  case atStart => exact ⟨a, 0, ha, Nat.zero_le _, rfl, rfl, HR⟩
  case round =>
    obtain ⟨k, n, hk, hnk, rfl, rfl, HP⟩ := hrel
    clear HR
    by_cases hlt : k < s.size
    · have hbk := hb k hlt
      obtain ⟨c, hc⟩ : ∃ c, bt s k = c := ⟨_, rfl⟩
      obtain ⟨x, hx⟩ : ∃ x, bt s (k + 1) = x := ⟨_, rfl⟩
      have hA := fun w => HAT.out (k + 1) w
      rw [hx, cast1] at hA
      have HA := hid hA
      have hop := opens_of hc hx
      have hcl := closes_of hc hx
      rw [hc] at hbk
      have hkI : (k : Int) < (s.size : Int) := by omega
      have hBl : isB (bt s k) = isB c := by rw [hc]
      clear hA hb
      by_cases h1 : c = 40 ∧ x = 42
      · obtain ⟨rfl, rfl⟩ := h1
        have HN := hid (bd_open (d := n) (show opens s k = true by rw [hop]; rfl))
        have hl2 := opens_lt (show opens s k = true by rw [hop]; rfl)
        clear hop hcl hBl hc hx
        go_wp2_with (go_at_call 38; refine (HA.out _).mono ?_; rintro e w' ⟨rfl, rfl⟩)
        go_round
        · exact ⟨k + 2, n + 1, by omega, by omega, by simp, by simp, hid (HN.out.symm.trans HP.out)⟩
        · simp [intOf]; omega
      · have ho : opens s k = false := by
          rw [hop]
          cases h : (c == 40 && x == 42) with
          | false => rfl
          | true => simp only [Bool.and_eq_true, beq_iff_eq] at h; exact absurd h h1
        have hcf : ¬ (c = 42 ∧ x = 41) → closes s k = false := fun hn => by
          rw [hcl]
          cases h : (c == 42 && x == 41) with
          | false => rfl
          | true => simp only [Bool.and_eq_true, beq_iff_eq] at h; exact absurd h hn
        by_cases hn0 : n = 0
        · subst hn0
          by_cases c40 : c = 40
          · subst c40
            have x42 : (x == 42) = false := by rw [beq_eq_false_iff_ne]; exact fun e => h1 ⟨rfl, e⟩
            clear hcf h1
            have hR : R = some k := by rw [← HP.out]; exact bd_other ho (by rw [hBl]; rfl)
            subst hR
            clear ho hop hcl hBl hc hx HP
            go_wp2_with (first | (go_at_call 38; refine (HA.out _).mono ?_; rintro e w' ⟨rfl, rfl⟩) | fail)
            refine bodyPost_ret (v := .tuple #[.int .i64 (k : Int), msV 0 0]) (by simp [results, Tryz.results17, go_sem, msV]) rfl ?_
            exact ⟨(by repeat (first | exact Tn.refl _ _ | apply Tn.drew | apply Tn.drewN | apply Tn.alloc | (refine Tn.then ?_ (by assumption)) | (refine Tn.thenNo ?_ (by assumption)))), rfl⟩
          · have n40 : (c == 40) = false := by rw [beq_eq_false_iff_ne]; exact c40
            clear hcf h1
            by_cases hB : c = 32 ∨ c = 9 ∨ c = 10 ∨ c = 13
            · have hBt : isB (bt s k) = true := by
                rw [hBl]
                rcases hB with rfl | rfl | rfl | rfl <;> rfl
              have HN := hid (bd_blank hBt)
              clear ho hop hcl hBl hc hx hBt c40
              rcases hB with rfl | rfl | rfl | rfl
              all_goals
                clear n40
                go_wp2_with fail
                go_round
                · exact ⟨k + 1, 0, by omega, by omega, by simp, rfl, hid (HN.out.symm.trans HP.out)⟩
                · simp [intOf]; omega
            · have b1 : (c == 32) = false := by rw [beq_eq_false_iff_ne]; omega
              have b2 : (c == 9) = false := by rw [beq_eq_false_iff_ne]; omega
              have b3 : (c == 10) = false := by rw [beq_eq_false_iff_ne]; omega
              have b4 : (c == 13) = false := by rw [beq_eq_false_iff_ne]; omega
              have hBf : isB (bt s k) = false := by
                rw [hBl]
                unfold isB
                rw [b1, b2, b3, b4]; rfl
              clear hB c40
              have hR : R = some k := by rw [← HP.out]; exact bd_other ho hBf
              subst hR
              clear ho hop hcl hBl hc hx HP hBf
              go_wp2_with (first | (go_at_call 38; refine (HA.out _).mono ?_; rintro e w' ⟨rfl, rfl⟩) | fail)
              refine bodyPost_ret (v := .tuple #[.int .i64 (k : Int), msV 0 0]) (by simp [results, Tryz.results17, go_sem, msV]) rfl ?_
              exact ⟨(by repeat (first | exact Tn.refl _ _ | apply Tn.drew | apply Tn.drewN | apply Tn.alloc | (refine Tn.then ?_ (by assumption)) | (refine Tn.thenNo ?_ (by assumption)))), rfl⟩
        · have hnp : 0 < n := by omega
          have hnI : (0 : Int) < (n : Int) := by omega
          by_cases c40 : c = 40
          · subst c40
            have x42 : (x == 42) = false := by rw [beq_eq_false_iff_ne]; exact fun e => h1 ⟨rfl, e⟩
            have hcl0 := hcf (fun e => by have := e.1; omega)
            clear hcf h1 hn0
            have HN := hid (bd_skip ho hcl0 hnp hlt)
            clear ho hop hcl hBl hc hx hcl0
            go_wp2_with (first | (go_at_call 38; refine (HA.out _).mono ?_; rintro e w' ⟨rfl, rfl⟩) | fail)
            go_round
            · exact ⟨k + 1, n, by omega, by omega, by simp, rfl, hid (HN.out.symm.trans HP.out)⟩
            · simp [intOf]; omega
          · have n40 : (c == 40) = false := by rw [beq_eq_false_iff_ne]; exact c40
            by_cases c42 : c = 42
            · subst c42
              by_cases x41 : x = 41
              · subst x41
                have hct : closes s k = true := by rw [hcl]; rfl
                have HN := hid (bd_close ho hct hnp)
                have hl2 := closes_lt hct
                have hw : IntKind.i64.wrap ((n : Int) - 1) = ((n - 1 : Nat) : Int) := by rw [IntKind.wrap_i64]; omega
                clear hcf h1 hn0 ho hop hcl hBl hc hx hct c40 n40
                go_wp2_with (first | (go_at_call 38; refine (HA.out _).mono ?_; rintro e w' ⟨rfl, rfl⟩) | fail)
                go_round
                · exact ⟨k + 2, n - 1, by omega, by omega, by simp, rfl, hid (HN.out.symm.trans HP.out)⟩
                · simp [intOf]; omega
              · have nx : (x == 41) = false := by rw [beq_eq_false_iff_ne]; exact x41
                have hcl0 := hcf (fun e => x41 e.2)
                clear hcf h1 hn0 c40 x41
                have HN := hid (bd_skip ho hcl0 hnp hlt)
                clear ho hop hcl hBl hc hx hcl0
                go_wp2_with (first | (go_at_call 38; refine (HA.out _).mono ?_; rintro e w' ⟨rfl, rfl⟩) | fail)
                go_round
                · exact ⟨k + 1, n, by omega, by omega, by simp, rfl, hid (HN.out.symm.trans HP.out)⟩
                · simp [intOf]; omega
            · have n42 : (c == 42) = false := by rw [beq_eq_false_iff_ne]; exact c42
              have hcl0 := hcf (fun e => c42 e.1)
              clear hcf h1 hn0 c40 c42
              have HN := hid (bd_skip ho hcl0 hnp hlt)
              clear ho hop hcl hBl hc hx hcl0
              go_wp2_with (first | (go_at_call 38; refine (HA.out _).mono ?_; rintro e w' ⟨rfl, rfl⟩) | fail)
              go_round
              · exact ⟨k + 1, n, by omega, by omega, by simp, rfl, hid (HN.out.symm.trans HP.out)⟩
              · simp [intOf]; omega
    · obtain rfl : k = s.size := by omega
      by_cases hn0 : n = 0
      · subst hn0
        have hR : R = some s.size := by rw [← HP.out]; exact bd_end0
        subst hR
        clear HP
        go_wp2_with fail
        refine bodyPost_ret (v := .tuple #[.int .i64 (s.size : Int), msV 0 0]) (by simp [results, Tryz.results17, go_sem, msV]) rfl ?_
        exact ⟨(by repeat (first | exact Tn.refl _ _ | apply Tn.drew | apply Tn.drewN | apply Tn.alloc | (refine Tn.then ?_ (by assumption)) | (refine Tn.thenNo ?_ (by assumption)))), rfl⟩
      · have hR : R = none := by rw [← HP.out]; exact bd_end (by omega)
        subst hR
        have hnI : (0 : Int) < (n : Int) := by omega
        clear HP hn0
        go_wp2_with (go_at_call 16; refine (HBD.out _).mono ?_; rintro e w1 ⟨rfl, ht⟩; simp only [msV]; obtain ⟨k2, f2, hz⟩ := one_block ht; have k20 := k2 0; have k21 := k2 1; simp at k20 k21; have HT := hid ht; clear k2 ht)
        refine bodyPost_ret (v := .tuple #[.int .i64 (s.size : Int), msV 31 (s.size : Int)]) (by obtain ⟨q0, q1⟩ := set2_cells (u0 := .int .i64 31) (u1 := .int .i64 (s.size : Int)) k20 k21; simp [results, Tryz.results17, go_sem, msV, q0, q1]) rfl ?_
        exact ⟨set2_tn HT.out, _, rfl⟩
end Go.Proofs.YtcmhfeeocehlaaaGreatDoor
namespace Go.Proofs.YtcmhfeeocehlaaaGreatDoor
set_option linter.unusedSimpArgs false
set_option linter.unusedVariables false
open Go.RowKit Go.PlainAid
attribute [local go_sem ↓] Go.wp_at_zero Go.wp_at_succ

/-- what escape answers -/
def escR (p : Int × Nat) : Value := .tuple #[.int .u8 p.1, .int .i64 ((p.2 - 1 : Nat) : Int)]
theorem run3 {s : ByteArray} {q : Nat} : q + 3 ≤ run isD s q ↔ isD (bt s q) = true ∧ isD (bt s (q + 1)) = true ∧ isD (bt s (q + 2)) = true := by
  constructor
  · intro h
    exact ⟨run_all (a := q) (Nat.le_refl q) (by omega), run_all (a := q) (by omega) (by omega), run_all (a := q) (by omega) (by omega)⟩
  · rintro ⟨d0, d1, d2⟩
    rw [run_yes (lt_of_p isD_0 d0) d0, run_yes (lt_of_p isD_0 d1) d1, run_yes (lt_of_p isD_0 d2) d2]
    exact run_ge isD s (q + 3)

set_option maxHeartbeats 2000000 in
set_option maxRecDepth 100000 in
theorem rescape_raw (s : ByteArray) (a q : Nat) (w : World) (hs : s.size ≤ 65536) (ha : a < s.size) (hq : q = a + 1) :
    Calls Tryz.prog 68 #[.string s, .int .i64 (q : Int)] w fun e w' => e = .returned (escR (escB s a)) ∧ Tn No w w' := by
  have HB := hid (fun w => rat_raw s q w)
  have HD := hid (fun w => rdigits_raw s q w hs (by omega))
  have h3 := run3 (s := s) (q := q)
  have hb := get_bt s
  have hrl := run_le isD s q (by omega)
  have hE : escB s a = if bt s q = 110 then (10, 2) else if bt s q = 116 then (9, 2) else if bt s q = 92 ∨ bt s q = 34 then (bt s q, 2)
      else if isD (bt s q) = true ∧ isD (bt s (q + 1)) = true ∧ isD (bt s (q + 2)) = true then
        (if 255 < ((bt s q - 48) * 10 + (bt s (q + 1) - 48)) * 10 + (bt s (q + 2) - 48) then (0, 0) else (((bt s q - 48) * 10 + (bt s (q + 1) - 48)) * 10 + (bt s (q + 2) - 48), 4))
      else (0, 0) := by rw [hq]; rfl
  rw [hE]
  have hqs : q ≤ s.size := by omega
  clear hE hq
  obtain ⟨r, hr⟩ : ∃ r, run isD s q = r := ⟨_, rfl⟩
  rw [hr] at HD h3 hrl
  by_cases h1 : bt s q = 110
  · rw [if_pos h1]
    rw [h1] at HB
    clear h1 h3 hb hr
    go_enter Tryz.func68, Tryz.ntmps68
    go_wp2_with (go_at_call 38; refine (HB.out _).mono ?_; rintro e w' ⟨rfl, rfl⟩)
    go_ret2
    exact ⟨rfl, (by repeat (first | exact Tn.refl _ _ | apply Tn.drew | apply Tn.drewN | apply Tn.alloc | (refine Tn.then ?_ (by assumption)) | (refine Tn.thenNo ?_ (by assumption))))⟩
  rw [if_neg h1]
  by_cases h2 : bt s q = 116
  · rw [if_pos h2]
    rw [h2] at HB
    clear h1 h2 h3 hb hr
    go_enter Tryz.func68, Tryz.ntmps68
    go_wp2_with (go_at_call 38; refine (HB.out _).mono ?_; rintro e w' ⟨rfl, rfl⟩)
    go_ret2
    exact ⟨rfl, (by repeat (first | exact Tn.refl _ _ | apply Tn.drew | apply Tn.drewN | apply Tn.alloc | (refine Tn.then ?_ (by assumption)) | (refine Tn.thenNo ?_ (by assumption))))⟩
  rw [if_neg h2]
  by_cases h4 : bt s q = 92 ∨ bt s q = 34
  · rw [if_pos h4]
    rcases h4 with h4 | h4
    all_goals
      rw [h4] at HB ⊢
      clear h1 h2 h3 h4 hb hr
      go_enter Tryz.func68, Tryz.ntmps68
      go_wp2_with (go_at_call 38; refine (HB.out _).mono ?_; rintro e w' ⟨rfl, rfl⟩)
      go_ret2
      exact ⟨rfl, (by repeat (first | exact Tn.refl _ _ | apply Tn.drew | apply Tn.drewN | apply Tn.alloc | (refine Tn.then ?_ (by assumption)) | (refine Tn.thenNo ?_ (by assumption))))⟩
  rw [if_neg h4]
  have e1 : (bt s q == 110) = false := by simpa using h1
  have e2 : (bt s q == 116) = false := by simpa using h2
  have e3 : (bt s q == 92) = false := by simpa using fun e => h4 (.inl e)
  have e4 : (bt s q == 34) = false := by simpa using fun e => h4 (.inr e)
  clear h1 h2 h4
  by_cases hd : isD (bt s q) = true ∧ isD (bt s (q + 1)) = true ∧ isD (bt s (q + 2)) = true
  · rw [if_pos hd]
    have hr3 := h3.2 hd
    have k0 : q < s.size := by omega
    have k1 : q + 1 < s.size := by omega
    have k2 : q + 2 < s.size := by omega
    have b0 := hb q k0
    have b1 := hb (q + 1) k1
    have b2 := hb (q + 2) k2
    have d0 := (isD_iff _).1 hd.1
    have d1 := (isD_iff _).1 hd.2.1
    have d2 := (isD_iff _).1 hd.2.2
    have l0 : (q : Int) < (s.size : Int) := by omega
    have l1 : (q : Int) + 1 < (s.size : Int) := by omega
    have l2 : (q : Int) + 2 < (s.size : Int) := by omega
    have hrI : (q : Int) + 3 ≤ (r : Int) := by omega
    obtain ⟨c0, hc0⟩ : ∃ c, bt s q = c := ⟨_, rfl⟩
    obtain ⟨c1, hc1⟩ : ∃ c, bt s (q + 1) = c := ⟨_, rfl⟩
    obtain ⟨c2, hc2⟩ : ∃ c, bt s (q + 2) = c := ⟨_, rfl⟩
    rw [hc0] at HB b0 d0 e1 e2 e3 e4 ⊢
    rw [hc1] at b1 d1 ⊢
    rw [hc2] at b2 d2 ⊢
    have u0 : IntKind.u8.wrap (c0 - 48) = c0 - 48 := by rw [IntKind.wrap_u8]; omega
    have u1 : IntKind.u8.wrap (c1 - 48) = c1 - 48 := by rw [IntKind.wrap_u8]; omega
    have u2 : IntKind.u8.wrap (c2 - 48) = c2 - 48 := by rw [IntKind.wrap_u8]; omega
    have i0 : IntKind.i64.wrap (c0 - 48) = c0 - 48 := by rw [IntKind.wrap_i64]; omega
    have i1 : IntKind.i64.wrap (c1 - 48) = c1 - 48 := by rw [IntKind.wrap_i64]; omega
    have i2 : IntKind.i64.wrap (c2 - 48) = c2 - 48 := by rw [IntKind.wrap_i64]; omega
    have m0 : IntKind.i64.wrap ((c0 - 48) * 100) = (c0 - 48) * 100 := by rw [IntKind.wrap_i64]; omega
    have m1 : IntKind.i64.wrap ((c1 - 48) * 10) = (c1 - 48) * 10 := by rw [IntKind.wrap_i64]; omega
    have p1 : IntKind.i64.wrap ((c0 - 48) * 100 + (c1 - 48) * 10) = (c0 - 48) * 100 + (c1 - 48) * 10 := by rw [IntKind.wrap_i64]; omega
    have p2 : IntKind.i64.wrap ((c0 - 48) * 100 + (c1 - 48) * 10 + (c2 - 48)) = (c0 - 48) * 100 + (c1 - 48) * 10 + (c2 - 48) := by rw [IntKind.wrap_i64]; omega
    have hw1 : IntKind.i64.wrap ((q : Int) + 1) = (q : Int) + 1 := by rw [IntKind.wrap_i64]; omega
    have hw2 : IntKind.i64.wrap ((q : Int) + 2) = (q : Int) + 2 := by rw [IntKind.wrap_i64]; omega
    have n1 : ((q : Int) + 1).toNat = q + 1 := by omega
    have n2 : ((q : Int) + 2).toNat = q + 2 := by omega
    have z1 : (0 : Int) ≤ (q : Int) + 1 := by omega
    have z2 : (0 : Int) ≤ (q : Int) + 2 := by omega
    clear hb h3 hd hr hc0 hc1 hc2 hr3
    by_cases hbig : 255 < ((c0 - 48) * 10 + (c1 - 48)) * 10 + (c2 - 48)
    · rw [if_pos hbig]
      have hN : ¬ ((c0 - 48) * 100 + (c1 - 48) * 10 + (c2 - 48) < 256) := by omega
      have hN2 : (256 : Int) ≤ (c0 - 48) * 100 + (c1 - 48) * 10 + (c2 - 48) := by omega
      clear hbig
      go_enter Tryz.func68, Tryz.ntmps68
      go_wp2_with (first
        | (go_at_call 38; refine (HB.out _).mono ?_; rintro e w' ⟨rfl, rfl⟩)
        | (go_at_call 63; refine (HD.out _).mono ?_; rintro e w' ⟨rfl, rfl⟩))
      go_quiet (fail)
      go_wp2_with fail
      go_ret2
      exact ⟨rfl, (by repeat (first | exact Tn.refl _ _ | apply Tn.drew | apply Tn.drewN | apply Tn.alloc | (refine Tn.then ?_ (by assumption)) | (refine Tn.thenNo ?_ (by assumption))))⟩
    · rw [if_neg hbig]
      have hN : (c0 - 48) * 100 + (c1 - 48) * 10 + (c2 - 48) < 256 := by omega
      have hV : ((c0 - 48) * 10 + (c1 - 48)) * 10 + (c2 - 48) = (c0 - 48) * 100 + (c1 - 48) * 10 + (c2 - 48) := by omega
      rw [hV]
      clear hbig hV
      go_enter Tryz.func68, Tryz.ntmps68
      go_wp2_with (first
        | (go_at_call 38; refine (HB.out _).mono ?_; rintro e w' ⟨rfl, rfl⟩)
        | (go_at_call 63; refine (HD.out _).mono ?_; rintro e w' ⟨rfl, rfl⟩))
      go_quiet (fail)
      go_wp2_with fail
      go_ret2
      exact ⟨rfl, (by repeat (first | exact Tn.refl _ _ | apply Tn.drew | apply Tn.drewN | apply Tn.alloc | (refine Tn.then ?_ (by assumption)) | (refine Tn.thenNo ?_ (by assumption))))⟩
  · rw [if_neg hd]
    have hr3 : ¬ q + 3 ≤ r := fun e => hd (h3.1 e)
    have hrI : (r : Int) < (q : Int) + 3 := by omega
    clear hb h3 hd hr hr3
    go_enter Tryz.func68, Tryz.ntmps68
    go_wp2_with (first
      | (go_at_call 38; refine (HB.out _).mono ?_; rintro e w' ⟨rfl, rfl⟩)
      | (go_at_call 63; refine (HD.out _).mono ?_; rintro e w' ⟨rfl, rfl⟩))
    go_ret2
    exact ⟨rfl, (by repeat (first | exact Tn.refl _ _ | apply Tn.drew | apply Tn.drewN | apply Tn.alloc | (refine Tn.then ?_ (by assumption)) | (refine Tn.thenNo ?_ (by assumption))))⟩

theorem esc_two (s : ByteArray) (a : Nat) : (escB s a).2 = 0 ∨ 2 ≤ (escB s a).2 := by
  unfold escB
  repeat' split
  all_goals simp
set_option maxHeartbeats 4000000 in
set_option maxRecDepth 100000 in
theorem rquoted_raw (s : ByteArray) (a : Nat) (w : World) (hs : s.size ≤ 65536) (ha : a < s.size) :
    Calls Tryz.prog 43 #[.string s, .int .i64 (a : Int)] w (QPost w (qu s (a + 1) [])) := by
  have hb := get_bt s
  obtain ⟨Q, hQ⟩ : ∃ Q, qu s (a + 1) [] = Q := ⟨_, rfl⟩
  rw [hQ]
  have HQ := hid hQ
  have HBD := hid (fun (c p : Int) w => rbad_raw c p w)
  clear hQ
  go_enter Tryz.func43, Tryz.ntmps43
  go_wp2_with fail
  go_loopw [8, 7] (fun i v wr => ∃ (k : Nat) (l : List UInt8), k ≤ s.size ∧ i = .int .i64 (k : Int) ∧ BR wr v l ∧ l.length ≤ k ∧ (∀ g, v.ownBlock = some g → w.heap.size + 1 ≤ g) ∧ Tn No (w.alloc (.cells #[.int .i64 0, .int .i64 0] 26)) wr ∧ Hid (qu s k l = Q)) (fun i _ _ => s.size - (intOf i).toNat)
  case atStart => exact ⟨a + 1, [], by omega, by simp, BR.nil _, by simp, fun g hg => (by cases hg), Tn.refl _ _, HQ⟩
  case round =>
    obtain ⟨k, l, hk, rfl, hbr, hlk, hob, ht, HP⟩ := hrel
    obtain ⟨av, cv, rfl, _⟩ := hbr.rw.form
    obtain ⟨k2, f2, hz⟩ := one_block ht
    have k20 := k2 0
    have k21 := k2 1
    simp at k20 k21
    clear k2 HQ
    by_cases hlt : k < s.size
    · have hst := qu_step (l := l) hlt
      obtain ⟨c, hc⟩ : ∃ c, bt s k = c := ⟨_, rfl⟩
      have hc0 := bt_nonneg s k
      have hc1 := bt_le s k
      have hbk := hb k hlt
      rw [hc] at hbk hst hc0 hc1
      clear hb hc
      by_cases c1 : c = 34
      · rw [if_pos c1] at hst
        have hq : Q = .ok l (k + 1) := by rw [← HP.out, hst]
        subst hq
        subst c1
        have hcv := br_string hbr
        have HT := hid ht
        clear HP hst ht hob hbr
        go_wp2_with fail
        refine bodyPost_ret (v := .tuple #[.string ⟨l.toArray⟩, .int .i64 ((k : Int) + 1), msV 0 0]) (by obtain ⟨q0, q1⟩ := set2_cells (u0 := .int .i64 0) (u1 := .int .i64 0) k20 k21; simp [results, Tryz.results43, go_sem, msV, q0, q1]) rfl ?_
        exact ⟨set2_tn HT.out, _, _, _, _, rfl, rfl, by simp, rfl, rfl⟩
      rw [if_neg c1] at hst
      have n34 : (c == 34) = false := by rw [beq_eq_false_iff_ne]; exact c1
      by_cases c2 : c = 92
      · rw [if_pos c2] at hst
        subst c2
        have hes := fun w => rescape_raw s k (k + 1) w hs hlt rfl
        have hbd := esc_bound (s := s) (a := k)
        obtain ⟨⟨d, n⟩, hE⟩ : ∃ p, escB s k = p := ⟨_, rfl⟩
        have he2 := esc_two s k
        rw [hE] at hst hbd he2
        simp only [hE, escR, cast1] at hes
        simp only at hst hbd he2
        have HES := hid hes
        clear hes hE c1 n34
        by_cases hn : n = 0
        · subst hn
          rw [if_pos rfl] at hst
          have hq : Q = .bad 32 k := by rw [← HP.out, hst]
          subst hq
          have HT := hid ht
          clear HP hst ht hob hbr hbd k20 k21 he2
          go_wp2_with (first
            | (go_at_call 68; refine (HES.out _).mono ?_; rintro e w5 ⟨rfl, t5⟩)
            | (go_at_call 16; refine (HBD.out _ _ _).mono ?_; rintro e w6 ⟨rfl, t6⟩; simp only [msV]; have ht := HT.out.thenNo (t5.then t6); obtain ⟨k2, f2, hz⟩ := one_block ht; have k20 := k2 0; have k21 := k2 1; simp at k20 k21; have HT6 := hid ht; clear k2 ht))
          refine bodyPost_ret (v := .tuple #[.string ⟨#[]⟩, .int .i64 0, msV 32 (k : Int)]) (by obtain ⟨q0, q1⟩ := set2_cells (u0 := .int .i64 32) (u1 := .int .i64 (k : Int)) k20 k21; simp [results, Tryz.results43, go_sem, msV, q0, q1]) rfl ?_
          exact ⟨set2_tn HT6.out, _, _, _, _, rfl, rfl, rfl, rfl, rfl⟩
        · rw [if_neg hn] at hst
          obtain ⟨hn1, hn2, hd0, hd1⟩ := hbd hn
          have HBR := hid hbr
          have HOB := hid hob
          have HT := hid ht
          have HST := hid (hst.symm.trans HP.out)
          obtain ⟨m, hm⟩ : ∃ m, n = m + 1 := ⟨n - 1, by omega⟩
          subst hm
          rw [Nat.add_sub_cancel] at HES
          have hnb : ((m : Int) == 0) = false := by
            rw [beq_eq_false_iff_ne]
            omega
          clear HP hst ht hob hbr hbd he2
          go_wp2_with (first
            | (go_at_call 68; refine (HES.out _).mono ?_; rintro e w5 ⟨rfl, t5⟩; obtain ⟨va, wa, hr, hbr', hown', htn'⟩ := said_append (HBR.out.no t5) d hd0 hd1 (by omega); have hob' := hown' (w.heap.size + 1) (by have := t5.size; omega) HOB.out; have ht' := htn' _ (HT.out.thenNo t5) (by simpa using HOB.out); have HR := hid hr; have HREL := hid (And.intro hbr' (And.intro hob' ht')); clear hr hbr' hown' htn' hob' ht')
            | (at_builtin; refine wpList_app _ rfl _ _ _ _ rfl _ _ rfl rfl va wa HR.out ?_))
          refine ⟨⟨k + (m + 1), _, hn2, by simp; omega, HREL.out.1, by simp; omega, HREL.out.2.1, HREL.out.2.2, HST⟩, ?_⟩
          simp [intOf]; omega
      rw [if_neg c2] at hst
      have n92 : (c != 92) = true := by simpa using c2
      by_cases c3 : c < 32 ∨ 126 < c
      · rw [if_pos c3] at hst
        have hq : Q = .bad 32 k := by rw [← HP.out, hst]
        subst hq
        have HT := hid ht
        clear HP hst ht hob hbr k20 k21 c1 c2
        rcases c3 with c3 | c3
        all_goals
          go_wp2_with (go_at_call 16; refine (HBD.out _ _ _).mono ?_; rintro e w6 ⟨rfl, t6⟩; simp only [msV]; have ht := HT.out.thenNo t6; obtain ⟨k2, f2, hz⟩ := one_block ht; have k20 := k2 0; have k21 := k2 1; simp at k20 k21; have HT6 := hid ht; clear k2 ht)
          refine bodyPost_ret (v := .tuple #[.string ⟨#[]⟩, .int .i64 0, msV 32 (k : Int)]) (by obtain ⟨q0, q1⟩ := set2_cells (u0 := .int .i64 32) (u1 := .int .i64 (k : Int)) k20 k21; simp [results, Tryz.results43, go_sem, msV, q0, q1]) rfl ?_
          exact ⟨set2_tn HT6.out, _, _, _, _, rfl, rfl, rfl, rfl, rfl⟩
      · rw [if_neg c3] at hst
        have c4 : 32 ≤ c := by omega
        have c5 : c ≤ 126 := by omega
        obtain ⟨va, wa, hr, hbr', hown', htn'⟩ := said_append hbr c hc0 hc1 (by omega)
        have hob' := hown' (w.heap.size + 1) (by omega) hob
        have ht' := htn' _ ht (by simpa using hob)
        have HR := hid hr
        have HREL := hid (And.intro hbr' (And.intro hob' ht'))
        have HST := hid (hst.symm.trans HP.out)
        clear HP hst ht hob hbr hr hbr' hown' htn' hob' ht' c3 c1 c2
        go_wp2_with (at_builtin; refine wpList_app _ rfl _ _ _ _ rfl _ _ rfl rfl va wa HR.out ?_)
        refine ⟨⟨k + 1, _, by omega, by simp, HREL.out.1, by simp; omega, HREL.out.2.1, HREL.out.2.2, HST⟩, ?_⟩
        simp [intOf]; omega
    · have hE := qu_end (s := s) (a := k) (l := l) (by omega)
      have hq : Q = .bad 31 s.size := by rw [← HP.out, hE]
      subst hq
      have HT := hid ht
      clear HP hE ht hob hbr k20 k21
      go_wp2_with (go_at_call 16; refine (HBD.out _ _ _).mono ?_; rintro e w6 ⟨rfl, t6⟩; simp only [msV]; have ht := HT.out.thenNo t6; obtain ⟨k2, f2, hz⟩ := one_block ht; have k20 := k2 0; have k21 := k2 1; simp at k20 k21; have HT6 := hid ht; clear k2 ht)
      refine bodyPost_ret (v := .tuple #[.string ⟨#[]⟩, .int .i64 0, msV 31 (s.size : Int)]) (by obtain ⟨q0, q1⟩ := set2_cells (u0 := .int .i64 31) (u1 := .int .i64 (s.size : Int)) k20 k21; simp [results, Tryz.results43, go_sem, msV, q0, q1]) rfl ?_
      exact ⟨set2_tn HT6.out, _, _, _, _, rfl, rfl, rfl, rfl, rfl⟩
end Go.Proofs.YtcmhfeeocehlaaaGreatDoor
namespace Go.Proofs.YtcmhfeeocehlaaaGreatDoor
set_option linter.unusedSimpArgs false
set_option linter.unusedVariables false
open Go.RowKit Go.PlainAid
attribute [local go_sem ↓] Go.wp_at_zero Go.wp_at_succ

set_option maxHeartbeats 1000000 in
set_option maxRecDepth 100000 in
theorem rname_raw (s : ByteArray) (a : Nat) (w : World) (hs : s.size ≤ 65536) (ha : a ≤ s.size) :
    Calls Tryz.prog 40 #[.string s, .int .i64 (a : Int)] w (WPost w (nameW s a).z) := by
  have hge := run_ge isN s a
  have hle := run_le isN s a ha
  have HB := hid (fun w => rnames_raw s a w hs ha)
  have hr := fun w => rreserved_raw (s.extract a (run isN s a)) w
  obtain ⟨e0, he⟩ : ∃ e, run isN s a = e := ⟨_, rfl⟩
  rw [nameW_eq]
  rw [he] at hge hle HB hr ⊢
  cases hv : resv (s.extract a e0).data.toList with
  | true =>
    rw [if_pos rfl]
    rw [hv] at hr
    have HR := hid hr
    clear hr hv he
    go_enter Tryz.func40, Tryz.ntmps40
    go_wp2_with (first
      | (go_at_call 45; refine (HB.out _).mono ?_; rintro e w' ⟨rfl, rfl⟩)
      | (go_at_call 12; refine (HR.out _).mono ?_; rintro e w' ⟨rfl, rfl⟩)
      | fail)
    refine bodyPost_ret (v := .tuple #[tkV 8 (s.extract a e0) false (.slice none 0 0) 0 0 0, .int .i64 (e0 : Int), msV 0 0]) (by simp [results, Tryz.results40, go_sem, tkV, msV]) rfl ?_
    exact ⟨(by repeat (first | exact Tn.refl _ _ | apply Tn.drew | apply Tn.drewN | apply Tn.alloc | (refine Tn.then ?_ (by assumption)) | (refine Tn.thenNo ?_ (by assumption)))), _, _, _, _, _, _, _, _, _, _, _, _, rfl, rfl, rfl, rfl, rfl, rfl, rfl, rfl, rfl, NumAt.nil _ _⟩
  | false =>
    rw [if_neg (by simp)]
    rw [hv] at hr
    have HR := hid hr
    obtain ⟨O, hO⟩ : ∃ O, (nmO s a (nm s e0)).z = O := ⟨_, rfl⟩
    rw [hO]
    have HO := hid hO
    clear hr hv he hO
    go_enter Tryz.func40, Tryz.ntmps40
    go_wp2_with (first
      | (go_at_call 45; refine (HB.out _).mono ?_; rintro e w' ⟨rfl, rfl⟩; clear HB)
      | (go_at_call 12; refine (HR.out _).mono ?_; rintro e w' ⟨rfl, rfl⟩; clear HR))
    go_loop [7] (fun i => ∃ k : Nat, a ≤ k ∧ k ≤ s.size ∧ i = .int .i64 (k : Int) ∧ Hid ((nmO s a (nm s k)).z = O)) (fun i => s.size - (intOf i).toNat)
    case atStart => exact ⟨e0, hge, hle, rfl, HO⟩
    case round =>
      obtain ⟨k, hk1, hk2, rfl, HP⟩ := hrel
      clear HO hge hle
      have HB1 := hid (fun w => rat_raw s k w)
      have HB2 := hid (fun w => rat_raw s (k + 1) w)
      have HL := hid (fun w => rletter_raw (bt s (k + 1)) w (bt_nonneg s _) (bt_le s _))
      have hcast : ((k + 1 : Nat) : Int) = (k : Int) + 1 := by omega
      rw [hcast] at HB2
      by_cases hdot : bt s k = 46
      · rw [hdot] at HB1
        cases hv : isL (bt s (k + 1)) with
        | true =>
          rw [hv] at HL
          have hlt := lt_of_p isL_0 hv
          have hge := run_ge isN s (k + 1)
          have hle := run_le isN s (k + 1) (by omega)
          have HN := hid (fun w => rnames_raw s (k + 1) w hs (by omega))
          rw [hcast] at HN
          have hrr := fun w => rreserved_raw (s.extract (k + 1) (run isN s (k + 1))) w
          cases hw : resv (s.extract (k + 1) (run isN s (k + 1))).data.toList with
          | true =>
            rw [hw] at hrr
            have HR := hid hrr
            have hnb := nm_bad ⟨hdot, hv⟩ hw
            have hob : O = .bad 32 (k + 1) := by rw [← HP.out, hnb]; rfl
            subst hob
            have HF := hid (fun w => rbad_raw 32 ((k : Int) + 1) w)
            obtain ⟨e1, he1⟩ : ∃ e, run isN s (k + 1) = e := ⟨_, rfl⟩
            rw [he1] at HN HR hge hle
            clear hrr hw hv hdot hnb HP he1
            go_wp2_with (first
              | (go_at_call 38; first | (refine (HB1.out _).mono ?_; rintro e w' ⟨rfl, rfl⟩; clear HB1) | (refine (HB2.out _).mono ?_; rintro e w' ⟨rfl, rfl⟩))
              | (go_at_call 39; refine (HL.out _).mono ?_; rintro e w' ⟨rfl, rfl⟩)
              | (go_at_call 45; refine (HN.out _).mono ?_; rintro e w' ⟨rfl, rfl⟩)
              | (go_at_call 12; refine (HR.out _).mono ?_; rintro e w' ⟨rfl, rfl⟩)
              | (go_at_call 16; refine (HF.out _).mono ?_; rintro e w1 ⟨rfl, ht⟩; simp only [msV]; obtain ⟨⟨k1, f1⟩, ⟨k2, f2⟩, s1, s2, hz⟩ := two_blocks ht; have HS1 := hid (fun i (hi : i < 7) => s1 i hi); have HS2 := hid (fun i (hi : i < 2) => s2 i hi); clear s1 s2; have k10 := k1 0; have k11 := k1 1; have k12 := k1 2; have k13 := k1 3; have k14 := k1 4; have k15 := k1 5; have k16 := k1 6; have k20 := k2 0; have k21 := k2 1; simp at k10 k11 k12 k13 k14 k15 k16 k20 k21; clear k1 k2; have HT := hid ht; clear ht; have hzA := Nat.lt_of_lt_of_le (Nat.lt_add_of_pos_right (by decide : 0 < 2)) hz; have hzB := Nat.lt_of_lt_of_le (Nat.add_lt_add_left (by decide : 1 < 2) _) hz))
            change bodyPost _ _ _ _ _ (put9 w1 w.heap.size (w.heap.size + 1) _ _ _ _ _ _ _ _ _)
            refine put9_all (bodyPost _ _ _ _ _) (by omega) HS1.out HS2.out ?_; rintro W ⟨q0, q1, q2, q3, q4, q5, q6, r0, r1⟩ hoth hsz htn; have HTN := hid (htn w (Tn.thenNo (((Tn.refl No w).alloc _).alloc _) HT.out) (by omega) (by omega)); clear htn
            refine bodyPost_ret (v := .tuple #[noTk, .int .i64 0, msV 32 ((k : Int) + 1)]) (by simp [results, Tryz.results40, go_sem, noTk, tkV, msV, q0, q1, q2, q3, q4, q5, q6, r0, r1]) rfl ?_
            exact ⟨HTN.out, _, _, _, _, _, _, _, _, _, _, _, _, rfl, rfl, rfl, rfl, rfl, rfl, rfl, rfl, rfl, rfl, by simp⟩
          | false =>
            rw [hw] at hrr
            have HR := hid hrr
            have HNG := hid (nm_go ⟨hdot, hv⟩ hw)
            obtain ⟨e1, he1⟩ : ∃ e, run isN s (k + 1) = e := ⟨_, rfl⟩
            rw [he1] at HN HR hge hle HNG
            clear hrr hw hv hdot he1
            go_wp2_with (first
              | (go_at_call 38; first | (refine (HB1.out _).mono ?_; rintro e w' ⟨rfl, rfl⟩; clear HB1) | (refine (HB2.out _).mono ?_; rintro e w' ⟨rfl, rfl⟩))
              | (go_at_call 39; refine (HL.out _).mono ?_; rintro e w' ⟨rfl, rfl⟩)
              | (go_at_call 45; refine (HN.out _).mono ?_; rintro e w' ⟨rfl, rfl⟩)
              | (go_at_call 12; refine (HR.out _).mono ?_; rintro e w' ⟨rfl, rfl⟩))
            refine ⟨⟨e1, by omega, hle, rfl, hid (by rw [← HNG.out]; exact HP.out)⟩, ?_⟩
            simp [intOf]; omega
        | false =>
          rw [hv] at HL
          have hns := nm_stop (s := s) (e := k) (fun h => by rw [hv] at h; cases h.2)
          have hob : O = (limd 1 s a k 64).z := by rw [← HP.out, hns]; rfl
          subst hob
          have HC := hid (fun w => rshort_raw 1 s a k w hs hk1 hk2)
          clear hv hdot hns HP
          go_wp2_with (first
            | (go_at_call 38; first | (refine (HB1.out _).mono ?_; rintro e w' ⟨rfl, rfl⟩; clear HB1) | (refine (HB2.out _).mono ?_; rintro e w' ⟨rfl, rfl⟩))
            | (go_at_call 39; refine (HL.out _).mono ?_; rintro e w' ⟨rfl, rfl⟩)
            | (go_at_call 44; refine (HC.out _).mono ?_; rintro e w1 ⟨ht, k1, x1, ng1, sa1, sn1, sc1, b1, n1, p1, en1, c1, pp1, rfl, hsh⟩; simp only [tkV, msV]; have HSH := hid hsh; clear hsh; obtain ⟨⟨k1, f1⟩, ⟨k2, f2⟩, s1, s2, hz⟩ := two_blocks ht; have HS1 := hid (fun i (hi : i < 7) => s1 i hi); have HS2 := hid (fun i (hi : i < 2) => s2 i hi); clear s1 s2; have k10 := k1 0; have k11 := k1 1; have k12 := k1 2; have k13 := k1 3; have k14 := k1 4; have k15 := k1 5; have k16 := k1 6; have k20 := k2 0; have k21 := k2 1; simp at k10 k11 k12 k13 k14 k15 k16 k20 k21; clear k1 k2; have HT := hid ht; clear ht; have hzA := Nat.lt_of_lt_of_le (Nat.lt_add_of_pos_right (by decide : 0 < 2)) hz; have hzB := Nat.lt_of_lt_of_le (Nat.add_lt_add_left (by decide : 1 < 2) _) hz))
          change bodyPost _ _ _ _ _ (put9 w1 w.heap.size (w.heap.size + 1) _ _ _ _ _ _ _ _ _); refine put9_all (bodyPost _ _ _ _ _) (by omega) HS1.out HS2.out ?_; rintro W ⟨q0, q1, q2, q3, q4, q5, q6, r0, r1⟩ hoth hsz htn; have HTN := hid (htn w (Tn.thenNo (((Tn.refl No w).alloc _).alloc _) HT.out) (by omega) (by omega)); clear htn; refine bodyPost_ret (v := .tuple #[tkV k1 x1 ng1 (.slice sa1 sn1 sc1) b1 n1 p1, .int .i64 en1, msV c1 pp1]) (by simp [results, Tryz.results40, go_sem, tkV, msV, q0, q1, q2, q3, q4, q5, q6, r0, r1]) rfl ?_; exact ⟨HTN.out, _, _, _, _, _, _, _, _, _, _, _, _, rfl, HSH.out.pass hoth hsz (by first | (simp; done) | (simp; omega) | omega) (by first | (simp; done) | (simp; omega) | omega)⟩
      · have hns := nm_stop (s := s) (e := k) (fun h => hdot h.1)
        have hob : O = (limd 1 s a k 64).z := by rw [← HP.out, hns]; rfl
        subst hob
        have HC := hid (fun w => rshort_raw 1 s a k w hs hk1 hk2)
        clear hns HP HB2 HL
        go_wp2_with (first
          | (go_at_call 38; refine (HB1.out _).mono ?_; rintro e w' ⟨rfl, rfl⟩)
          | (go_at_call 44; refine (HC.out _).mono ?_; rintro e w1 ⟨ht, k1, x1, ng1, sa1, sn1, sc1, b1, n1, p1, en1, c1, pp1, rfl, hsh⟩; simp only [tkV, msV]; have HSH := hid hsh; clear hsh; obtain ⟨⟨k1, f1⟩, ⟨k2, f2⟩, s1, s2, hz⟩ := two_blocks ht; have HS1 := hid (fun i (hi : i < 7) => s1 i hi); have HS2 := hid (fun i (hi : i < 2) => s2 i hi); clear s1 s2; have k10 := k1 0; have k11 := k1 1; have k12 := k1 2; have k13 := k1 3; have k14 := k1 4; have k15 := k1 5; have k16 := k1 6; have k20 := k2 0; have k21 := k2 1; simp at k10 k11 k12 k13 k14 k15 k16 k20 k21; clear k1 k2; have HT := hid ht; clear ht; have hzA := Nat.lt_of_lt_of_le (Nat.lt_add_of_pos_right (by decide : 0 < 2)) hz; have hzB := Nat.lt_of_lt_of_le (Nat.add_lt_add_left (by decide : 1 < 2) _) hz))
        change bodyPost _ _ _ _ _ (put9 w1 w.heap.size (w.heap.size + 1) _ _ _ _ _ _ _ _ _); refine put9_all (bodyPost _ _ _ _ _) (by omega) HS1.out HS2.out ?_; rintro W ⟨q0, q1, q2, q3, q4, q5, q6, r0, r1⟩ hoth hsz htn; have HTN := hid (htn w (Tn.thenNo (((Tn.refl No w).alloc _).alloc _) HT.out) (by omega) (by omega)); clear htn; refine bodyPost_ret (v := .tuple #[tkV k1 x1 ng1 (.slice sa1 sn1 sc1) b1 n1 p1, .int .i64 en1, msV c1 pp1]) (by simp [results, Tryz.results40, go_sem, tkV, msV, q0, q1, q2, q3, q4, q5, q6, r0, r1]) rfl ?_; exact ⟨HTN.out, _, _, _, _, _, _, _, _, _, _, _, _, rfl, HSH.out.pass hoth hsz (by first | (simp; done) | (simp; omega) | omega) (by first | (simp; done) | (simp; omega) | omega)⟩
end Go.Proofs.YtcmhfeeocehlaaaGreatDoor
