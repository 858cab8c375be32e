/-
  wordAt: the word that begins at a place.
-/
import Derived.Test.YtcmhfeeocehlaaaGreatDoorNumA
import Derived.Test.YtcmhfeeocehlaaaGreatDoorTextChar
namespace Go.Proofs.YtcmhfeeocehlaaaGreatDoor
set_option linter.unusedSimpArgs false
set_option linter.unusedVariables false
open Go.RowKit Go.PlainAid
attribute [local go_sem ↓] Go.wp_at_zero Go.wp_at_succ

theorem Tn.undrew {F : Nat → Prop} {a b : World} {n : Nat} (h : Tn F (a.drewN n) b) : Tn F a b := ⟨h.os, h.tape, h.output, h.size, h.block⟩

set_option maxHeartbeats 8000000 in
set_option maxRecDepth 100000 in
theorem word_raw (rb : ByteArray → Int) (s : ByteArray) (a : Nat) (w : World) (hs : s.size ≤ 65536) (ha : a < s.size) (hr : isL (bt s a) = false → isNum s a = true → ¬ numE s a = whole s a → ¬ 100 < numE s a - a → RBW w (s.extract a (numE s a)) (rb (s.extract a (numE s a)))) :
    Calls Tryz.prog 15 #[.string s, .int .i64 (a : Int)] w (WPost w (wordW rb s a)) := by
  have hb := get_bt s a ha
  have HB := hid (fun w => byteAt_raw s (a + 1) w (by omega))
  rw [cast1] at HB
  have HL := hid (fun w => letter_raw (bt s a) w (bt_nonneg s _) (bt_le s _))
  have HD := hid (fun w => digit_raw (bt s a) w (bt_nonneg s _) (bt_le s _))
  have HD2 := hid (fun w => digit_raw (bt s (a + 1)) w (bt_nonneg s _) (bt_le s _))
  have HO := hid (fun w => lone_raw (bt s a) w (bt_nonneg s _) (bt_le s _))
  have HS := hid (fun w => symbol_raw (bt s a) w (bt_nonneg s _) (bt_le s _))
  have HNM := hid (fun w => name_raw s a w hs (by omega))
  have hNU := fun h1 h2 (w' : World) (t : Tn No w w') => number_raw rb s a w' hs h2 (fun h3 h4 => (hr h1 h2 h3 h4).no t)
  have HTX := hid (fun w => text_raw s a w hs ha)
  have hCH := fun (h : a + 1 < s.size) w => char_raw s a w hs h
  have HTY := hid (fun w => tyvar_raw s a w hs (by omega))
  have HST := hid (fun w => stands_raw 8 s a (a + 1) w hs (by omega) (by omega))
  rw [cast1] at HST
  have HSY := hid (fun w => symbols_raw s a w hs (by omega))
  have HFA := hid (fun w => failed_raw 30 a w)
  have hlt2 : bt s (a + 1) = 34 → a + 1 < s.size := fun h => lt_of_bt (by omega)
  have hc0 := bt_nonneg s a
  unfold wordW isNum
  unfold isNum at hNU
  obtain ⟨d, hd⟩ : ∃ d, bt s (a + 1) = d := ⟨_, rfl⟩
  obtain ⟨c, hc⟩ : ∃ c, bt s a = c := ⟨_, rfl⟩
  rw [hd] at HB HD2 hNU hlt2 ⊢
  rw [hc] at hb HL HD HO HS hNU ⊢
  clear hd hc hr hc0
  cases hL : isL c with
  | true =>
    rw [if_pos rfl]
    rw [hL] at HL
    clear hNU hCH
    go_enter Tryz.func15, Tryz.ntmps15
    go_wp2_with fail
    go_quiet ((go_at_call 25; exact Calls.quiet_of_same (HB.out _)))
    go_wp2_with (first
      | (go_at_call 26; refine (HL.out _).mono ?_; rintro e w' ⟨rfl, rfl⟩)
      | (go_at_call 27; refine (HNM.out _).mono ?_; rintro e w1 ⟨ht0, k1, x1, ng1, sa1, sn1, sc1, b1, n1, p1, en1, c1, pp1, rfl, hsh⟩; simp only [tkV, msV]; have HSH := hid hsh; have ht := Tn.undrew ht0; clear hsh ht0; obtain ⟨⟨k1, f1⟩, ⟨k2, f2⟩, s1, s2, hz⟩ := two_blocks ht; have HS1 := hid (fun i (hi : i < 7) => s1 i hi); have HS2 := hid (fun i (hi : i < 2) => s2 i hi); clear s1 s2; have k10 := k1 0; have k11 := k1 1; have k12 := k1 2; have k13 := k1 3; have k14 := k1 4; have k15 := k1 5; have k16 := k1 6; have k20 := k2 0; have k21 := k2 1; simp at k10 k11 k12 k13 k14 k15 k16 k20 k21; clear k1 k2; have HT := hid ht; clear ht; have hzA := Nat.lt_of_lt_of_le (Nat.lt_add_of_pos_right (by decide : 0 < 2)) hz; have hzB := Nat.lt_of_lt_of_le (Nat.add_lt_add_left (by decide : 1 < 2) _) hz))
    change bodyPost _ _ _ _ _ (put9 w1 w.heap.size (w.heap.size + 1) _ _ _ _ _ _ _ _ _); refine put9_all (bodyPost _ _ _ _ _) (by omega) HS1.out HS2.out ?_; rintro W ⟨q0, q1, q2, q3, q4, q5, q6, r0, r1⟩ hoth hsz htn; have HTN := hid (htn w (Tn.thenNo (((Tn.refl No w).alloc _).alloc _) HT.out) (by omega) (by omega)); clear htn; refine bodyPost_ret (v := .tuple #[tkV k1 x1 ng1 (.slice sa1 sn1 sc1) b1 n1 p1, .int .i64 en1, msV c1 pp1]) (by simp [results, Tryz.results15, go_sem, tkV, msV, q0, q1, q2, q3, q4, q5, q6, r0, r1]) rfl ?_; exact ⟨HTN.out, _, _, _, _, _, _, _, _, _, _, _, _, rfl, HSH.out.pass hoth hsz (by first | (simp; done) | (simp; omega) | omega) (by first | (simp; done) | (simp; omega) | omega)⟩
  | false =>
    rw [if_neg (by simp)]
    rw [hL] at HL
    by_cases hN : (isD c || (c == 126 && isD d)) = true
    · rw [if_pos hN]
      have HC := hid (hNU hL hN)
      clear hNU hCH
      cases hD : isD c with
      | true =>
        rw [hD] at HD
        clear hN
        go_enter Tryz.func15, Tryz.ntmps15
        go_wp2_with fail
        go_quiet ((go_at_call 25; exact Calls.quiet_of_same (HB.out _)))
        go_wp2_with (first
          | (go_at_call 26; refine (HL.out _).mono ?_; rintro e w' ⟨rfl, rfl⟩)
          | (go_at_call 28; refine (HD.out _).mono ?_; rintro e w' ⟨rfl, rfl⟩)
          | (go_at_call 29; refine (HC.out _ (by repeat (first | exact Tn.refl _ _ | apply Tn.drew | apply Tn.drewN | apply Tn.alloc | (refine Tn.then ?_ (by assumption)) | (refine Tn.thenNo ?_ (by assumption))))).mono ?_; rintro e w1 ⟨ht0, k1, x1, ng1, sa1, sn1, sc1, b1, n1, p1, en1, c1, pp1, rfl, hsh⟩; simp only [tkV, msV]; have HSH := hid hsh; have ht := Tn.undrew ht0; clear hsh ht0; obtain ⟨⟨k1, f1⟩, ⟨k2, f2⟩, s1, s2, hz⟩ := two_blocks ht; have HS1 := hid (fun i (hi : i < 7) => s1 i hi); have HS2 := hid (fun i (hi : i < 2) => s2 i hi); clear s1 s2; have k10 := k1 0; have k11 := k1 1; have k12 := k1 2; have k13 := k1 3; have k14 := k1 4; have k15 := k1 5; have k16 := k1 6; have k20 := k2 0; have k21 := k2 1; simp at k10 k11 k12 k13 k14 k15 k16 k20 k21; clear k1 k2; have HT := hid ht; clear ht; have hzA := Nat.lt_of_lt_of_le (Nat.lt_add_of_pos_right (by decide : 0 < 2)) hz; have hzB := Nat.lt_of_lt_of_le (Nat.add_lt_add_left (by decide : 1 < 2) _) hz))
        change bodyPost _ _ _ _ _ (put9 w1 w.heap.size (w.heap.size + 1) _ _ _ _ _ _ _ _ _); refine put9_all (bodyPost _ _ _ _ _) (by omega) HS1.out HS2.out ?_; rintro W ⟨q0, q1, q2, q3, q4, q5, q6, r0, r1⟩ hoth hsz htn; have HTN := hid (htn w (Tn.thenNo (((Tn.refl No w).alloc _).alloc _) HT.out) (by omega) (by omega)); clear htn; refine bodyPost_ret (v := .tuple #[tkV k1 x1 ng1 (.slice sa1 sn1 sc1) b1 n1 p1, .int .i64 en1, msV c1 pp1]) (by simp [results, Tryz.results15, go_sem, tkV, msV, q0, q1, q2, q3, q4, q5, q6, r0, r1]) rfl ?_; exact ⟨HTN.out, _, _, _, _, _, _, _, _, _, _, _, _, rfl, HSH.out.pass hoth hsz (by first | (simp; done) | (simp; omega) | omega) (by first | (simp; done) | (simp; omega) | omega)⟩
      | false =>
        rw [hD] at HD hN
        simp only [Bool.false_or, Bool.and_eq_true, beq_iff_eq] at hN
        obtain ⟨rfl, hD2⟩ := hN
        rw [hD2] at HD2
        go_enter Tryz.func15, Tryz.ntmps15
        go_wp2_with fail
        go_quiet ((go_at_call 25; exact Calls.quiet_of_same (HB.out _)))
        go_wp2_with (first
          | (go_at_call 26; refine (HL.out _).mono ?_; rintro e w' ⟨rfl, rfl⟩)
          | (go_at_call 28; first | (refine (HD.out _).mono ?_; rintro e w' ⟨rfl, rfl⟩; clear HD) | (refine (HD2.out _).mono ?_; rintro e w' ⟨rfl, rfl⟩))
          | (go_at_call 29; refine (HC.out _ (by repeat (first | exact Tn.refl _ _ | apply Tn.drew | apply Tn.drewN | apply Tn.alloc | (refine Tn.then ?_ (by assumption)) | (refine Tn.thenNo ?_ (by assumption))))).mono ?_; rintro e w1 ⟨ht0, k1, x1, ng1, sa1, sn1, sc1, b1, n1, p1, en1, c1, pp1, rfl, hsh⟩; simp only [tkV, msV]; have HSH := hid hsh; have ht := Tn.undrew ht0; clear hsh ht0; obtain ⟨⟨k1, f1⟩, ⟨k2, f2⟩, s1, s2, hz⟩ := two_blocks ht; have HS1 := hid (fun i (hi : i < 7) => s1 i hi); have HS2 := hid (fun i (hi : i < 2) => s2 i hi); clear s1 s2; have k10 := k1 0; have k11 := k1 1; have k12 := k1 2; have k13 := k1 3; have k14 := k1 4; have k15 := k1 5; have k16 := k1 6; have k20 := k2 0; have k21 := k2 1; simp at k10 k11 k12 k13 k14 k15 k16 k20 k21; clear k1 k2; have HT := hid ht; clear ht; have hzA := Nat.lt_of_lt_of_le (Nat.lt_add_of_pos_right (by decide : 0 < 2)) hz; have hzB := Nat.lt_of_lt_of_le (Nat.add_lt_add_left (by decide : 1 < 2) _) hz))
        change bodyPost _ _ _ _ _ (put9 w1 w.heap.size (w.heap.size + 1) _ _ _ _ _ _ _ _ _); refine put9_all (bodyPost _ _ _ _ _) (by omega) HS1.out HS2.out ?_; rintro W ⟨q0, q1, q2, q3, q4, q5, q6, r0, r1⟩ hoth hsz htn; have HTN := hid (htn w (Tn.thenNo (((Tn.refl No w).alloc _).alloc _) HT.out) (by omega) (by omega)); clear htn; refine bodyPost_ret (v := .tuple #[tkV k1 x1 ng1 (.slice sa1 sn1 sc1) b1 n1 p1, .int .i64 en1, msV c1 pp1]) (by simp [results, Tryz.results15, go_sem, tkV, msV, q0, q1, q2, q3, q4, q5, q6, r0, r1]) rfl ?_; exact ⟨HTN.out, _, _, _, _, _, _, _, _, _, _, _, _, rfl, HSH.out.pass hoth hsz (by first | (simp; done) | (simp; omega) | omega) (by first | (simp; done) | (simp; omega) | omega)⟩
    · rw [if_neg hN]
      have hD : isD c = false := by cases h : isD c with | true => rw [h] at hN; simp at hN | false => rfl
      rw [hD] at HD
      have hT : c = 126 → isD d = false := fun h => by cases h' : isD d with | true => rw [h, h'] at hN; simp at hN | false => rfl
      clear hNU hN
      by_cases h34 : c = 34
      · rw [if_pos h34]
        subst h34
        clear hCH hT
        go_enter Tryz.func15, Tryz.ntmps15
        go_wp2_with fail
        go_quiet ((go_at_call 25; exact Calls.quiet_of_same (HB.out _)))
        go_wp2_with (first
          | (go_at_call 26; refine (HL.out _).mono ?_; rintro e w' ⟨rfl, rfl⟩)
          | (go_at_call 28; refine (HD.out _).mono ?_; rintro e w' ⟨rfl, rfl⟩)
          | (go_at_call 30; refine (HTX.out _).mono ?_; rintro e w1 ⟨ht0, k1, x1, ng1, sa1, sn1, sc1, b1, n1, p1, en1, c1, pp1, rfl, hsh⟩; simp only [tkV, msV]; have HSH := hid hsh; have ht := Tn.undrew ht0; clear hsh ht0; obtain ⟨⟨k1, f1⟩, ⟨k2, f2⟩, s1, s2, hz⟩ := two_blocks ht; have HS1 := hid (fun i (hi : i < 7) => s1 i hi); have HS2 := hid (fun i (hi : i < 2) => s2 i hi); clear s1 s2; have k10 := k1 0; have k11 := k1 1; have k12 := k1 2; have k13 := k1 3; have k14 := k1 4; have k15 := k1 5; have k16 := k1 6; have k20 := k2 0; have k21 := k2 1; simp at k10 k11 k12 k13 k14 k15 k16 k20 k21; clear k1 k2; have HT := hid ht; clear ht; have hzA := Nat.lt_of_lt_of_le (Nat.lt_add_of_pos_right (by decide : 0 < 2)) hz; have hzB := Nat.lt_of_lt_of_le (Nat.add_lt_add_left (by decide : 1 < 2) _) hz))
        change bodyPost _ _ _ _ _ (put9 w1 w.heap.size (w.heap.size + 1) _ _ _ _ _ _ _ _ _); refine put9_all (bodyPost _ _ _ _ _) (by omega) HS1.out HS2.out ?_; rintro W ⟨q0, q1, q2, q3, q4, q5, q6, r0, r1⟩ hoth hsz htn; have HTN := hid (htn w (Tn.thenNo (((Tn.refl No w).alloc _).alloc _) HT.out) (by omega) (by omega)); clear htn; refine bodyPost_ret (v := .tuple #[tkV k1 x1 ng1 (.slice sa1 sn1 sc1) b1 n1 p1, .int .i64 en1, msV c1 pp1]) (by simp [results, Tryz.results15, go_sem, tkV, msV, q0, q1, q2, q3, q4, q5, q6, r0, r1]) rfl ?_; exact ⟨HTN.out, _, _, _, _, _, _, _, _, _, _, _, _, rfl, HSH.out.pass hoth hsz (by first | (simp; done) | (simp; omega) | omega) (by first | (simp; done) | (simp; omega) | omega)⟩
      · rw [if_neg h34]
        by_cases h35 : c = 35 ∧ d = 34
        · rw [if_pos h35]
          obtain ⟨rfl, rfl⟩ := h35
          have HC := hid (hCH (hlt2 rfl))
          clear hCH hT h34
          go_enter Tryz.func15, Tryz.ntmps15
          go_wp2_with fail
          go_quiet ((go_at_call 25; exact Calls.quiet_of_same (HB.out _)))
          go_wp2_with (first
            | (go_at_call 26; refine (HL.out _).mono ?_; rintro e w' ⟨rfl, rfl⟩)
            | (go_at_call 28; refine (HD.out _).mono ?_; rintro e w' ⟨rfl, rfl⟩)
            | (go_at_call 31; refine (HC.out _).mono ?_; rintro e w1 ⟨ht0, k1, x1, ng1, sa1, sn1, sc1, b1, n1, p1, en1, c1, pp1, rfl, hsh⟩; simp only [tkV, msV]; have HSH := hid hsh; have ht := Tn.undrew ht0; clear hsh ht0; obtain ⟨⟨k1, f1⟩, ⟨k2, f2⟩, s1, s2, hz⟩ := two_blocks ht; have HS1 := hid (fun i (hi : i < 7) => s1 i hi); have HS2 := hid (fun i (hi : i < 2) => s2 i hi); clear s1 s2; have k10 := k1 0; have k11 := k1 1; have k12 := k1 2; have k13 := k1 3; have k14 := k1 4; have k15 := k1 5; have k16 := k1 6; have k20 := k2 0; have k21 := k2 1; simp at k10 k11 k12 k13 k14 k15 k16 k20 k21; clear k1 k2; have HT := hid ht; clear ht; have hzA := Nat.lt_of_lt_of_le (Nat.lt_add_of_pos_right (by decide : 0 < 2)) hz; have hzB := Nat.lt_of_lt_of_le (Nat.add_lt_add_left (by decide : 1 < 2) _) hz))
          change bodyPost _ _ _ _ _ (put9 w1 w.heap.size (w.heap.size + 1) _ _ _ _ _ _ _ _ _); refine put9_all (bodyPost _ _ _ _ _) (by omega) HS1.out HS2.out ?_; rintro W ⟨q0, q1, q2, q3, q4, q5, q6, r0, r1⟩ hoth hsz htn; have HTN := hid (htn w (Tn.thenNo (((Tn.refl No w).alloc _).alloc _) HT.out) (by omega) (by omega)); clear htn; refine bodyPost_ret (v := .tuple #[tkV k1 x1 ng1 (.slice sa1 sn1 sc1) b1 n1 p1, .int .i64 en1, msV c1 pp1]) (by simp [results, Tryz.results15, go_sem, tkV, msV, q0, q1, q2, q3, q4, q5, q6, r0, r1]) rfl ?_; exact ⟨HTN.out, _, _, _, _, _, _, _, _, _, _, _, _, rfl, HSH.out.pass hoth hsz (by first | (simp; done) | (simp; omega) | omega) (by first | (simp; done) | (simp; omega) | omega)⟩
        · rw [if_neg h35]
          by_cases h39 : c = 39
          · rw [if_pos h39]
            subst h39
            clear hCH hT h34 h35
            go_enter Tryz.func15, Tryz.ntmps15
            go_wp2_with fail
            go_quiet ((go_at_call 25; exact Calls.quiet_of_same (HB.out _)))
            go_wp2_with (first
              | (go_at_call 26; refine (HL.out _).mono ?_; rintro e w' ⟨rfl, rfl⟩)
              | (go_at_call 28; refine (HD.out _).mono ?_; rintro e w' ⟨rfl, rfl⟩)
              | (go_at_call 32; refine (HTY.out _).mono ?_; rintro e w1 ⟨ht0, k1, x1, ng1, sa1, sn1, sc1, b1, n1, p1, en1, c1, pp1, rfl, hsh⟩; simp only [tkV, msV]; have HSH := hid hsh; have ht := Tn.undrew ht0; clear hsh ht0; obtain ⟨⟨k1, f1⟩, ⟨k2, f2⟩, s1, s2, hz⟩ := two_blocks ht; have HS1 := hid (fun i (hi : i < 7) => s1 i hi); have HS2 := hid (fun i (hi : i < 2) => s2 i hi); clear s1 s2; have k10 := k1 0; have k11 := k1 1; have k12 := k1 2; have k13 := k1 3; have k14 := k1 4; have k15 := k1 5; have k16 := k1 6; have k20 := k2 0; have k21 := k2 1; simp at k10 k11 k12 k13 k14 k15 k16 k20 k21; clear k1 k2; have HT := hid ht; clear ht; have hzA := Nat.lt_of_lt_of_le (Nat.lt_add_of_pos_right (by decide : 0 < 2)) hz; have hzB := Nat.lt_of_lt_of_le (Nat.add_lt_add_left (by decide : 1 < 2) _) hz))
            change bodyPost _ _ _ _ _ (put9 w1 w.heap.size (w.heap.size + 1) _ _ _ _ _ _ _ _ _); refine put9_all (bodyPost _ _ _ _ _) (by omega) HS1.out HS2.out ?_; rintro W ⟨q0, q1, q2, q3, q4, q5, q6, r0, r1⟩ hoth hsz htn; have HTN := hid (htn w (Tn.thenNo (((Tn.refl No w).alloc _).alloc _) HT.out) (by omega) (by omega)); clear htn; refine bodyPost_ret (v := .tuple #[tkV k1 x1 ng1 (.slice sa1 sn1 sc1) b1 n1 p1, .int .i64 en1, msV c1 pp1]) (by simp [results, Tryz.results15, go_sem, tkV, msV, q0, q1, q2, q3, q4, q5, q6, r0, r1]) rfl ?_; exact ⟨HTN.out, _, _, _, _, _, _, _, _, _, _, _, _, rfl, HSH.out.pass hoth hsz (by first | (simp; done) | (simp; omega) | omega) (by first | (simp; done) | (simp; omega) | omega)⟩
          · rw [if_neg h39]
            cases hO : isO c with
            | true =>
              rw [if_pos rfl]
              rw [hO] at HO
              have n1 : ¬ c = 126 := fun e => by rw [e] at hO; exact absurd hO (by decide)
              have n2 : ¬ c = 35 := fun e => by rw [e] at hO; exact absurd hO (by decide)
              clear hCH hT h35 hO hL hD
              go_enter Tryz.func15, Tryz.ntmps15
              go_wp2_with fail
              go_quiet ((go_at_call 25; exact Calls.quiet_of_same (HB.out _)))
              go_wp2_with (first
                | (go_at_call 26; refine (HL.out _).mono ?_; rintro e w' ⟨rfl, rfl⟩)
                | (go_at_call 28; refine (HD.out _).mono ?_; rintro e w' ⟨rfl, rfl⟩)
                | (go_at_call 33; refine (HO.out _).mono ?_; rintro e w' ⟨rfl, rfl⟩)
                | (go_at_call 34; refine (HST.out _).mono ?_; rintro e w1 ⟨ht0, k1, x1, ng1, sa1, sn1, sc1, b1, n1, p1, en1, c1, pp1, rfl, hsh⟩; simp only [tkV, msV]; have HSH := hid hsh; have ht := Tn.undrew ht0; clear hsh ht0; obtain ⟨⟨k1, f1⟩, ⟨k2, f2⟩, s1, s2, hz⟩ := two_blocks ht; have HS1 := hid (fun i (hi : i < 7) => s1 i hi); have HS2 := hid (fun i (hi : i < 2) => s2 i hi); clear s1 s2; have k10 := k1 0; have k11 := k1 1; have k12 := k1 2; have k13 := k1 3; have k14 := k1 4; have k15 := k1 5; have k16 := k1 6; have k20 := k2 0; have k21 := k2 1; simp at k10 k11 k12 k13 k14 k15 k16 k20 k21; clear k1 k2; have HT := hid ht; clear ht; have hzA := Nat.lt_of_lt_of_le (Nat.lt_add_of_pos_right (by decide : 0 < 2)) hz; have hzB := Nat.lt_of_lt_of_le (Nat.add_lt_add_left (by decide : 1 < 2) _) hz))
              change bodyPost _ _ _ _ _ (put9 w1 w.heap.size (w.heap.size + 1) _ _ _ _ _ _ _ _ _); refine put9_all (bodyPost _ _ _ _ _) (by omega) HS1.out HS2.out ?_; rintro W ⟨q0, q1, q2, q3, q4, q5, q6, r0, r1⟩ hoth hsz htn; have HTN := hid (htn w (Tn.thenNo (((Tn.refl No w).alloc _).alloc _) HT.out) (by omega) (by omega)); clear htn; refine bodyPost_ret (v := .tuple #[tkV k1 x1 ng1 (.slice sa1 sn1 sc1) b1 n1 p1, .int .i64 en1, msV c1 pp1]) (by simp [results, Tryz.results15, go_sem, tkV, msV, q0, q1, q2, q3, q4, q5, q6, r0, r1]) rfl ?_; exact ⟨HTN.out, _, _, _, _, _, _, _, _, _, _, _, _, rfl, HSH.out.pass hoth hsz (by first | (simp; done) | (simp; omega) | omega) (by first | (simp; done) | (simp; omega) | omega)⟩
            | false =>
              rw [if_neg (by simp)]
              rw [hO] at HO
              cases hS : isS c with
              | true =>
                rw [if_pos rfl]
                rw [hS] at HS
                by_cases h126 : c = 126
                · have hD2 := hT h126
                  rw [hD2] at HD2
                  subst h126
                  clear hCH hT h35 hO hL hD hD2 h34 h39 hS
                  go_enter Tryz.func15, Tryz.ntmps15
                  go_wp2_with fail
                  go_quiet ((go_at_call 25; exact Calls.quiet_of_same (HB.out _)))
                  go_wp2_with (first
                    | (go_at_call 26; refine (HL.out _).mono ?_; rintro e w' ⟨rfl, rfl⟩)
                    | (go_at_call 28; first | (refine (HD.out _).mono ?_; rintro e w' ⟨rfl, rfl⟩; clear HD) | (refine (HD2.out _).mono ?_; rintro e w' ⟨rfl, rfl⟩))
                    | (go_at_call 33; refine (HO.out _).mono ?_; rintro e w' ⟨rfl, rfl⟩)
                    | (go_at_call 35; refine (HS.out _).mono ?_; rintro e w' ⟨rfl, rfl⟩)
                    | (go_at_call 36; refine (HSY.out _).mono ?_; rintro e w1 ⟨ht0, k1, x1, ng1, sa1, sn1, sc1, b1, n1, p1, en1, c1, pp1, rfl, hsh⟩; simp only [tkV, msV]; have HSH := hid hsh; have ht := Tn.undrew ht0; clear hsh ht0; obtain ⟨⟨k1, f1⟩, ⟨k2, f2⟩, s1, s2, hz⟩ := two_blocks ht; have HS1 := hid (fun i (hi : i < 7) => s1 i hi); have HS2 := hid (fun i (hi : i < 2) => s2 i hi); clear s1 s2; have k10 := k1 0; have k11 := k1 1; have k12 := k1 2; have k13 := k1 3; have k14 := k1 4; have k15 := k1 5; have k16 := k1 6; have k20 := k2 0; have k21 := k2 1; simp at k10 k11 k12 k13 k14 k15 k16 k20 k21; clear k1 k2; have HT := hid ht; clear ht; have hzA := Nat.lt_of_lt_of_le (Nat.lt_add_of_pos_right (by decide : 0 < 2)) hz; have hzB := Nat.lt_of_lt_of_le (Nat.add_lt_add_left (by decide : 1 < 2) _) hz))
                  change bodyPost _ _ _ _ _ (put9 w1 w.heap.size (w.heap.size + 1) _ _ _ _ _ _ _ _ _); refine put9_all (bodyPost _ _ _ _ _) (by omega) HS1.out HS2.out ?_; rintro W ⟨q0, q1, q2, q3, q4, q5, q6, r0, r1⟩ hoth hsz htn; have HTN := hid (htn w (Tn.thenNo (((Tn.refl No w).alloc _).alloc _) HT.out) (by omega) (by omega)); clear htn; refine bodyPost_ret (v := .tuple #[tkV k1 x1 ng1 (.slice sa1 sn1 sc1) b1 n1 p1, .int .i64 en1, msV c1 pp1]) (by simp [results, Tryz.results15, go_sem, tkV, msV, q0, q1, q2, q3, q4, q5, q6, r0, r1]) rfl ?_; exact ⟨HTN.out, _, _, _, _, _, _, _, _, _, _, _, _, rfl, HSH.out.pass hoth hsz (by first | (simp; done) | (simp; omega) | omega) (by first | (simp; done) | (simp; omega) | omega)⟩
                · by_cases h35' : c = 35
                  · subst h35'
                    have hd34 : ¬ d = 34 := fun e => h35 ⟨rfl, e⟩
                    clear hCH hT h35 hO hL hD h34 h39 hS h126
                    go_enter Tryz.func15, Tryz.ntmps15
                    go_wp2_with fail
                    go_quiet ((go_at_call 25; exact Calls.quiet_of_same (HB.out _)))
                    go_wp2_with (first
                      | (go_at_call 26; refine (HL.out _).mono ?_; rintro e w' ⟨rfl, rfl⟩)
                      | (go_at_call 28; refine (HD.out _).mono ?_; rintro e w' ⟨rfl, rfl⟩)
                      | (go_at_call 33; refine (HO.out _).mono ?_; rintro e w' ⟨rfl, rfl⟩)
                      | (go_at_call 35; refine (HS.out _).mono ?_; rintro e w' ⟨rfl, rfl⟩)
                      | (go_at_call 36; refine (HSY.out _).mono ?_; rintro e w1 ⟨ht0, k1, x1, ng1, sa1, sn1, sc1, b1, n1, p1, en1, c1, pp1, rfl, hsh⟩; simp only [tkV, msV]; have HSH := hid hsh; have ht := Tn.undrew ht0; clear hsh ht0; obtain ⟨⟨k1, f1⟩, ⟨k2, f2⟩, s1, s2, hz⟩ := two_blocks ht; have HS1 := hid (fun i (hi : i < 7) => s1 i hi); have HS2 := hid (fun i (hi : i < 2) => s2 i hi); clear s1 s2; have k10 := k1 0; have k11 := k1 1; have k12 := k1 2; have k13 := k1 3; have k14 := k1 4; have k15 := k1 5; have k16 := k1 6; have k20 := k2 0; have k21 := k2 1; simp at k10 k11 k12 k13 k14 k15 k16 k20 k21; clear k1 k2; have HT := hid ht; clear ht; have hzA := Nat.lt_of_lt_of_le (Nat.lt_add_of_pos_right (by decide : 0 < 2)) hz; have hzB := Nat.lt_of_lt_of_le (Nat.add_lt_add_left (by decide : 1 < 2) _) hz))
                    change bodyPost _ _ _ _ _ (put9 w1 w.heap.size (w.heap.size + 1) _ _ _ _ _ _ _ _ _); refine put9_all (bodyPost _ _ _ _ _) (by omega) HS1.out HS2.out ?_; rintro W ⟨q0, q1, q2, q3, q4, q5, q6, r0, r1⟩ hoth hsz htn; have HTN := hid (htn w (Tn.thenNo (((Tn.refl No w).alloc _).alloc _) HT.out) (by omega) (by omega)); clear htn; refine bodyPost_ret (v := .tuple #[tkV k1 x1 ng1 (.slice sa1 sn1 sc1) b1 n1 p1, .int .i64 en1, msV c1 pp1]) (by simp [results, Tryz.results15, go_sem, tkV, msV, q0, q1, q2, q3, q4, q5, q6, r0, r1]) rfl ?_; exact ⟨HTN.out, _, _, _, _, _, _, _, _, _, _, _, _, rfl, HSH.out.pass hoth hsz (by first | (simp; done) | (simp; omega) | omega) (by first | (simp; done) | (simp; omega) | omega)⟩
                  · clear hCH hT h35 hO hL hD hS
                    go_enter Tryz.func15, Tryz.ntmps15
                    go_wp2_with fail
                    go_quiet ((go_at_call 25; exact Calls.quiet_of_same (HB.out _)))
                    go_wp2_with (first
                      | (go_at_call 26; refine (HL.out _).mono ?_; rintro e w' ⟨rfl, rfl⟩)
                      | (go_at_call 28; refine (HD.out _).mono ?_; rintro e w' ⟨rfl, rfl⟩)
                      | (go_at_call 33; refine (HO.out _).mono ?_; rintro e w' ⟨rfl, rfl⟩)
                      | (go_at_call 35; refine (HS.out _).mono ?_; rintro e w' ⟨rfl, rfl⟩)
                      | (go_at_call 36; refine (HSY.out _).mono ?_; rintro e w1 ⟨ht0, k1, x1, ng1, sa1, sn1, sc1, b1, n1, p1, en1, c1, pp1, rfl, hsh⟩; simp only [tkV, msV]; have HSH := hid hsh; have ht := Tn.undrew ht0; clear hsh ht0; obtain ⟨⟨k1, f1⟩, ⟨k2, f2⟩, s1, s2, hz⟩ := two_blocks ht; have HS1 := hid (fun i (hi : i < 7) => s1 i hi); have HS2 := hid (fun i (hi : i < 2) => s2 i hi); clear s1 s2; have k10 := k1 0; have k11 := k1 1; have k12 := k1 2; have k13 := k1 3; have k14 := k1 4; have k15 := k1 5; have k16 := k1 6; have k20 := k2 0; have k21 := k2 1; simp at k10 k11 k12 k13 k14 k15 k16 k20 k21; clear k1 k2; have HT := hid ht; clear ht; have hzA := Nat.lt_of_lt_of_le (Nat.lt_add_of_pos_right (by decide : 0 < 2)) hz; have hzB := Nat.lt_of_lt_of_le (Nat.add_lt_add_left (by decide : 1 < 2) _) hz))
                    change bodyPost _ _ _ _ _ (put9 w1 w.heap.size (w.heap.size + 1) _ _ _ _ _ _ _ _ _); refine put9_all (bodyPost _ _ _ _ _) (by omega) HS1.out HS2.out ?_; rintro W ⟨q0, q1, q2, q3, q4, q5, q6, r0, r1⟩ hoth hsz htn; have HTN := hid (htn w (Tn.thenNo (((Tn.refl No w).alloc _).alloc _) HT.out) (by omega) (by omega)); clear htn; refine bodyPost_ret (v := .tuple #[tkV k1 x1 ng1 (.slice sa1 sn1 sc1) b1 n1 p1, .int .i64 en1, msV c1 pp1]) (by simp [results, Tryz.results15, go_sem, tkV, msV, q0, q1, q2, q3, q4, q5, q6, r0, r1]) rfl ?_; exact ⟨HTN.out, _, _, _, _, _, _, _, _, _, _, _, _, rfl, HSH.out.pass hoth hsz (by first | (simp; done) | (simp; omega) | omega) (by first | (simp; done) | (simp; omega) | omega)⟩
              | false =>
                rw [if_neg (by simp)]
                rw [hS] at HS
                have n1 : ¬ c = 126 := fun e => by rw [e] at hS; exact absurd hS (by decide)
                have n2 : ¬ c = 35 := fun e => by rw [e] at hS; exact absurd hS (by decide)
                clear hCH hT h35 hO hL hD hS
                go_enter Tryz.func15, Tryz.ntmps15
                go_wp2_with fail
                go_quiet ((go_at_call 25; exact Calls.quiet_of_same (HB.out _)))
                go_wp2_with (first
                  | (go_at_call 26; refine (HL.out _).mono ?_; rintro e w' ⟨rfl, rfl⟩)
                  | (go_at_call 28; refine (HD.out _).mono ?_; rintro e w' ⟨rfl, rfl⟩)
                  | (go_at_call 33; refine (HO.out _).mono ?_; rintro e w' ⟨rfl, rfl⟩)
                  | (go_at_call 35; refine (HS.out _).mono ?_; rintro e w' ⟨rfl, rfl⟩)
                  | (go_at_call 37; refine (HFA.out _).mono ?_; rintro e w1 ⟨ht0, k1, x1, ng1, sa1, sn1, sc1, b1, n1, p1, en1, c1, pp1, rfl, hsh⟩; simp only [tkV, msV]; have HSH := hid hsh; have ht := Tn.undrew ht0; clear hsh ht0; obtain ⟨⟨k1, f1⟩, ⟨k2, f2⟩, s1, s2, hz⟩ := two_blocks ht; have HS1 := hid (fun i (hi : i < 7) => s1 i hi); have HS2 := hid (fun i (hi : i < 2) => s2 i hi); clear s1 s2; have k10 := k1 0; have k11 := k1 1; have k12 := k1 2; have k13 := k1 3; have k14 := k1 4; have k15 := k1 5; have k16 := k1 6; have k20 := k2 0; have k21 := k2 1; simp at k10 k11 k12 k13 k14 k15 k16 k20 k21; clear k1 k2; have HT := hid ht; clear ht; have hzA := Nat.lt_of_lt_of_le (Nat.lt_add_of_pos_right (by decide : 0 < 2)) hz; have hzB := Nat.lt_of_lt_of_le (Nat.add_lt_add_left (by decide : 1 < 2) _) hz))
                change bodyPost _ _ _ _ _ (put9 w1 w.heap.size (w.heap.size + 1) _ _ _ _ _ _ _ _ _); refine put9_all (bodyPost _ _ _ _ _) (by omega) HS1.out HS2.out ?_; rintro W ⟨q0, q1, q2, q3, q4, q5, q6, r0, r1⟩ hoth hsz htn; have HTN := hid (htn w (Tn.thenNo (((Tn.refl No w).alloc _).alloc _) HT.out) (by omega) (by omega)); clear htn; refine bodyPost_ret (v := .tuple #[tkV k1 x1 ng1 (.slice sa1 sn1 sc1) b1 n1 p1, .int .i64 en1, msV c1 pp1]) (by simp [results, Tryz.results15, go_sem, tkV, msV, q0, q1, q2, q3, q4, q5, q6, r0, r1]) rfl ?_; exact ⟨HTN.out, _, _, _, _, _, _, _, _, _, _, _, _, rfl, HSH.out.pass hoth hsz (by first | (simp; done) | (simp; omega) | omega) (by first | (simp; done) | (simp; omega) | omega)⟩
end Go.Proofs.YtcmhfeeocehlaaaGreatDoor
