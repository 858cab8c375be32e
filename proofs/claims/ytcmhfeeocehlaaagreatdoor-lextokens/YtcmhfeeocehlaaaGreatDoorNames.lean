/-
  Names, type variables, rows of symbol bytes.
-/
import Derived.Test.YtcmhfeeocehlaaaGreatDoorWords
namespace Go.Proofs.YtcmhfeeocehlaaaGreatDoor
set_option linter.unusedSimpArgs false
set_option linter.unusedVariables false
open Go.RowKit Go.PlainAid
attribute [local go_sem ↓] Go.wp_at_zero Go.wp_at_succ

set_option maxHeartbeats 1000000 in
set_option maxRecDepth 100000 in
theorem symbols_raw (s : ByteArray) (a : Nat) (w : World) (hs : s.size ≤ 65536) (ha : a ≤ s.size) :
    Calls Tryz.prog 36 #[.string s, .int .i64 (a : Int)] w (WPost w (symW s a)) := by
  have hge := run_ge isS s a
  have hle := run_le isS s a ha
  have HB := hid (fun w => behind_symbols s a w (by omega) ha)
  have hr := fun w => reserved_raw (s.extract a (run isS s a)) w
  obtain ⟨e, he⟩ : ∃ e, run isS s a = e := ⟨_, rfl⟩
  unfold symW
  rw [he] at hge hle HB hr ⊢
  cases hv : resv (s.extract a e).data.toList with
  | true =>
    rw [if_pos rfl]
    rw [hv] at hr
    have HR := hid hr
    have HC := hid (fun w => stands_raw 8 s a e w hs hge hle)
    clear hr hv he
    go_enter Tryz.func36, Tryz.ntmps36
    go_wp2_with (first
      | (go_at_call 53; refine (HB.out _).mono ?_; rintro e w' ⟨rfl, rfl⟩)
      | (go_at_call 11; refine (HR.out _).mono ?_; rintro e w' ⟨rfl, rfl⟩)
      | (go_at_call 34; refine (HC.out _).mono ?_; rintro e w1 ⟨ht, k1, x1, ng1, sa1, sn1, sc1, b1, n1, p1, en1, c1, pp1, rfl, hsh⟩; simp only [tkV, msV]; have HSH := hid hsh; clear hsh; obtain ⟨⟨k1, f1⟩, ⟨k2, f2⟩, s1, s2, hz⟩ := two_blocks ht; have HS1 := hid (fun i (hi : i < 7) => s1 i hi); have HS2 := hid (fun i (hi : i < 2) => s2 i hi); clear s1 s2; have k10 := k1 0; have k11 := k1 1; have k12 := k1 2; have k13 := k1 3; have k14 := k1 4; have k15 := k1 5; have k16 := k1 6; have k20 := k2 0; have k21 := k2 1; simp at k10 k11 k12 k13 k14 k15 k16 k20 k21; clear k1 k2; have HT := hid ht; clear ht; have hzA := Nat.lt_of_lt_of_le (Nat.lt_add_of_pos_right (by decide : 0 < 2)) hz; have hzB := Nat.lt_of_lt_of_le (Nat.add_lt_add_left (by decide : 1 < 2) _) hz))
    change bodyPost _ _ _ _ _ (put9 w1 w.heap.size (w.heap.size + 1) _ _ _ _ _ _ _ _ _); refine put9_all (bodyPost _ _ _ _ _) (by omega) HS1.out HS2.out ?_; rintro W ⟨q0, q1, q2, q3, q4, q5, q6, r0, r1⟩ hoth hsz htn; have HTN := hid (htn w (Tn.thenNo (((Tn.refl No w).alloc _).alloc _) HT.out) (by omega) (by omega)); clear htn; refine bodyPost_ret (v := .tuple #[tkV k1 x1 ng1 (.slice sa1 sn1 sc1) b1 n1 p1, .int .i64 en1, msV c1 pp1]) (by simp [results, Tryz.results36, go_sem, tkV, msV, q0, q1, q2, q3, q4, q5, q6, r0, r1]) rfl ?_; exact ⟨HTN.out, _, _, _, _, _, _, _, _, _, _, _, _, rfl, HSH.out.pass hoth hsz (by first | (simp; done) | (simp; omega) | omega) (by first | (simp; done) | (simp; omega) | omega)⟩
  | false =>
    rw [if_neg (by simp)]
    rw [hv] at hr
    have HR := hid hr
    have HC := hid (fun w => limited_raw 2 s a e 64 w hs hge hle (by omega))
    clear hr hv he
    go_enter Tryz.func36, Tryz.ntmps36
    go_wp2_with (first
      | (go_at_call 53; refine (HB.out _).mono ?_; rintro e w' ⟨rfl, rfl⟩)
      | (go_at_call 11; refine (HR.out _).mono ?_; rintro e w' ⟨rfl, rfl⟩)
      | (go_at_call 55; refine (HC.out _).mono ?_; rintro e w1 ⟨ht, k1, x1, ng1, sa1, sn1, sc1, b1, n1, p1, en1, c1, pp1, rfl, hsh⟩; simp only [tkV, msV]; have HSH := hid hsh; clear hsh; obtain ⟨⟨k1, f1⟩, ⟨k2, f2⟩, s1, s2, hz⟩ := two_blocks ht; have HS1 := hid (fun i (hi : i < 7) => s1 i hi); have HS2 := hid (fun i (hi : i < 2) => s2 i hi); clear s1 s2; have k10 := k1 0; have k11 := k1 1; have k12 := k1 2; have k13 := k1 3; have k14 := k1 4; have k15 := k1 5; have k16 := k1 6; have k20 := k2 0; have k21 := k2 1; simp at k10 k11 k12 k13 k14 k15 k16 k20 k21; clear k1 k2; have HT := hid ht; clear ht; have hzA := Nat.lt_of_lt_of_le (Nat.lt_add_of_pos_right (by decide : 0 < 2)) hz; have hzB := Nat.lt_of_lt_of_le (Nat.add_lt_add_left (by decide : 1 < 2) _) hz))
    change bodyPost _ _ _ _ _ (put9 w1 w.heap.size (w.heap.size + 1) _ _ _ _ _ _ _ _ _); refine put9_all (bodyPost _ _ _ _ _) (by omega) HS1.out HS2.out ?_; rintro W ⟨q0, q1, q2, q3, q4, q5, q6, r0, r1⟩ hoth hsz htn; have HTN := hid (htn w (Tn.thenNo (((Tn.refl No w).alloc _).alloc _) HT.out) (by omega) (by omega)); clear htn; refine bodyPost_ret (v := .tuple #[tkV k1 x1 ng1 (.slice sa1 sn1 sc1) b1 n1 p1, .int .i64 en1, msV c1 pp1]) (by simp [results, Tryz.results36, go_sem, tkV, msV, q0, q1, q2, q3, q4, q5, q6, r0, r1]) rfl ?_; exact ⟨HTN.out, _, _, _, _, _, _, _, _, _, _, _, _, rfl, HSH.out.pass hoth hsz (by first | (simp; done) | (simp; omega) | omega) (by first | (simp; done) | (simp; omega) | omega)⟩

/-! ### type variables -/
set_option maxHeartbeats 1000000 in
set_option maxRecDepth 100000 in
theorem tyvar_raw (s : ByteArray) (a : Nat) (w : World) (hs : s.size ≤ 65536) (ha : a ≤ s.size) :
    Calls Tryz.prog 32 #[.string s, .int .i64 (a : Int)] w (WPost w (tyvW s a)) := by
  have hb := fun k w => byteAt_raw s k w (by omega)
  have HB1 := hid (fun w => hb (a + 1) w)
  have HB2 := hid (fun w => hb (tyL s a) w)
  have HL := hid (fun w => letter_raw (bt s (tyL s a)) w (bt_nonneg s _) (bt_le s _))
  have HF := hid (fun w => failed_raw 30 a w)
  clear hb
  have hcast : ((a + 1 : Nat) : Int) = (a : Int) + 1 := by omega
  by_cases hq : bt s (a + 1) = 39
  · have hl : tyL s a = a + 2 := by unfold tyL; rw [if_pos hq]
    have hcast2 : ((a + 2 : Nat) : Int) = (a : Int) + 1 + 1 := by omega
    rw [hl] at HB2 HL
    rw [hq] at HB1
    unfold tyvW
    rw [hl]
    rw [hcast] at HB1
    rw [hcast2] at HB2
    cases hv : isL (bt s (a + 2)) with
    | true =>
      rw [if_pos rfl]
      have hlt := lt_of_p isL_0 hv
      have hge := run_ge isN s (a + 2)
      have hle := run_le isN s (a + 2) (by omega)
      have HN := hid (fun w => behind_names s (a + 2) w (by omega) (by omega))
      have HC := hid (fun w => limited_raw 3 s a (run isN s (a + 2)) 64 w hs (by omega) hle (by omega))
      rw [hv] at HL
      rw [hcast2] at HN
      clear hv hq hl hcast hcast2 HF
      go_enter Tryz.func32, Tryz.ntmps32
      go_wp2_with (first
        | (go_at_call 25; first | (refine (HB1.out _).mono ?_; rintro e w' ⟨rfl, rfl⟩; clear HB1) | (refine (HB2.out _).mono ?_; rintro e w' ⟨rfl, rfl⟩))
        | (go_at_call 26; refine (HL.out _).mono ?_; rintro e w' ⟨rfl, rfl⟩)
        | (go_at_call 53; refine (HN.out _).mono ?_; rintro e w' ⟨rfl, rfl⟩)
        | (go_at_call 55; refine (HC.out _).mono ?_; rintro e w1 ⟨ht, k1, x1, ng1, sa1, sn1, sc1, b1, n1, p1, en1, c1, pp1, rfl, hsh⟩; simp only [tkV, msV]; have HSH := hid hsh; clear hsh; obtain ⟨⟨k1, f1⟩, ⟨k2, f2⟩, s1, s2, hz⟩ := two_blocks ht; have HS1 := hid (fun i (hi : i < 7) => s1 i hi); have HS2 := hid (fun i (hi : i < 2) => s2 i hi); clear s1 s2; have k10 := k1 0; have k11 := k1 1; have k12 := k1 2; have k13 := k1 3; have k14 := k1 4; have k15 := k1 5; have k16 := k1 6; have k20 := k2 0; have k21 := k2 1; simp at k10 k11 k12 k13 k14 k15 k16 k20 k21; clear k1 k2; have HT := hid ht; clear ht; have hzA := Nat.lt_of_lt_of_le (Nat.lt_add_of_pos_right (by decide : 0 < 2)) hz; have hzB := Nat.lt_of_lt_of_le (Nat.add_lt_add_left (by decide : 1 < 2) _) hz))
      change bodyPost _ _ _ _ _ (put9 w1 w.heap.size (w.heap.size + 1) _ _ _ _ _ _ _ _ _); refine put9_all (bodyPost _ _ _ _ _) (by omega) HS1.out HS2.out ?_; rintro W ⟨q0, q1, q2, q3, q4, q5, q6, r0, r1⟩ hoth hsz htn; have HTN := hid (htn w (Tn.thenNo (((Tn.refl No w).alloc _).alloc _) HT.out) (by omega) (by omega)); clear htn; refine bodyPost_ret (v := .tuple #[tkV k1 x1 ng1 (.slice sa1 sn1 sc1) b1 n1 p1, .int .i64 en1, msV c1 pp1]) (by simp [results, Tryz.results32, go_sem, tkV, msV, q0, q1, q2, q3, q4, q5, q6, r0, r1]) rfl ?_; exact ⟨HTN.out, _, _, _, _, _, _, _, _, _, _, _, _, rfl, HSH.out.pass hoth hsz (by first | (simp; done) | (simp; omega) | omega) (by first | (simp; done) | (simp; omega) | omega)⟩
    | false =>
      rw [if_neg (by simp)]
      rw [hv] at HL
      clear hv hq hl hcast hcast2
      go_enter Tryz.func32, Tryz.ntmps32
      go_wp2_with (first
        | (go_at_call 25; first | (refine (HB1.out _).mono ?_; rintro e w' ⟨rfl, rfl⟩; clear HB1) | (refine (HB2.out _).mono ?_; rintro e w' ⟨rfl, rfl⟩))
        | (go_at_call 26; refine (HL.out _).mono ?_; rintro e w' ⟨rfl, rfl⟩)
        | (go_at_call 37; refine (HF.out _).mono ?_; rintro e w1 ⟨ht, k1, x1, ng1, sa1, sn1, sc1, b1, n1, p1, en1, c1, pp1, rfl, hsh⟩; simp only [tkV, msV]; have HSH := hid hsh; clear hsh; obtain ⟨⟨k1, f1⟩, ⟨k2, f2⟩, s1, s2, hz⟩ := two_blocks ht; have HS1 := hid (fun i (hi : i < 7) => s1 i hi); have HS2 := hid (fun i (hi : i < 2) => s2 i hi); clear s1 s2; have k10 := k1 0; have k11 := k1 1; have k12 := k1 2; have k13 := k1 3; have k14 := k1 4; have k15 := k1 5; have k16 := k1 6; have k20 := k2 0; have k21 := k2 1; simp at k10 k11 k12 k13 k14 k15 k16 k20 k21; clear k1 k2; have HT := hid ht; clear ht; have hzA := Nat.lt_of_lt_of_le (Nat.lt_add_of_pos_right (by decide : 0 < 2)) hz; have hzB := Nat.lt_of_lt_of_le (Nat.add_lt_add_left (by decide : 1 < 2) _) hz))
      change bodyPost _ _ _ _ _ (put9 w1 w.heap.size (w.heap.size + 1) _ _ _ _ _ _ _ _ _); refine put9_all (bodyPost _ _ _ _ _) (by omega) HS1.out HS2.out ?_; rintro W ⟨q0, q1, q2, q3, q4, q5, q6, r0, r1⟩ hoth hsz htn; have HTN := hid (htn w (Tn.thenNo (((Tn.refl No w).alloc _).alloc _) HT.out) (by omega) (by omega)); clear htn; refine bodyPost_ret (v := .tuple #[tkV k1 x1 ng1 (.slice sa1 sn1 sc1) b1 n1 p1, .int .i64 en1, msV c1 pp1]) (by simp [results, Tryz.results32, go_sem, tkV, msV, q0, q1, q2, q3, q4, q5, q6, r0, r1]) rfl ?_; exact ⟨HTN.out, _, _, _, _, _, _, _, _, _, _, _, _, rfl, HSH.out.pass hoth hsz (by first | (simp; done) | (simp; omega) | omega) (by first | (simp; done) | (simp; omega) | omega)⟩
  · have hl : tyL s a = a + 1 := by unfold tyL; rw [if_neg hq]
    rw [hl] at HB2 HL
    unfold tyvW
    rw [hl]
    rw [hcast] at HB1
    clear HB2
    cases hv : isL (bt s (a + 1)) with
    | true =>
      rw [if_pos rfl]
      have hlt := lt_of_p isL_0 hv
      have hge := run_ge isN s (a + 1)
      have hle := run_le isN s (a + 1) (by omega)
      have HN := hid (fun w => behind_names s (a + 1) w (by omega) (by omega))
      have HC := hid (fun w => limited_raw 3 s a (run isN s (a + 1)) 64 w hs (by omega) hle (by omega))
      rw [hv] at HL
      rw [hcast] at HN
      clear hv hl hcast HF
      go_enter Tryz.func32, Tryz.ntmps32
      go_wp2_with (first
        | (go_at_call 25; refine (HB1.out _).mono ?_; rintro e w' ⟨rfl, rfl⟩)
        | (go_at_call 26; refine (HL.out _).mono ?_; rintro e w' ⟨rfl, rfl⟩)
        | (go_at_call 53; refine (HN.out _).mono ?_; rintro e w' ⟨rfl, rfl⟩)
        | (go_at_call 55; refine (HC.out _).mono ?_; rintro e w1 ⟨ht, k1, x1, ng1, sa1, sn1, sc1, b1, n1, p1, en1, c1, pp1, rfl, hsh⟩; simp only [tkV, msV]; have HSH := hid hsh; clear hsh; obtain ⟨⟨k1, f1⟩, ⟨k2, f2⟩, s1, s2, hz⟩ := two_blocks ht; have HS1 := hid (fun i (hi : i < 7) => s1 i hi); have HS2 := hid (fun i (hi : i < 2) => s2 i hi); clear s1 s2; have k10 := k1 0; have k11 := k1 1; have k12 := k1 2; have k13 := k1 3; have k14 := k1 4; have k15 := k1 5; have k16 := k1 6; have k20 := k2 0; have k21 := k2 1; simp at k10 k11 k12 k13 k14 k15 k16 k20 k21; clear k1 k2; have HT := hid ht; clear ht; have hzA := Nat.lt_of_lt_of_le (Nat.lt_add_of_pos_right (by decide : 0 < 2)) hz; have hzB := Nat.lt_of_lt_of_le (Nat.add_lt_add_left (by decide : 1 < 2) _) hz))
      change bodyPost _ _ _ _ _ (put9 w1 w.heap.size (w.heap.size + 1) _ _ _ _ _ _ _ _ _); refine put9_all (bodyPost _ _ _ _ _) (by omega) HS1.out HS2.out ?_; rintro W ⟨q0, q1, q2, q3, q4, q5, q6, r0, r1⟩ hoth hsz htn; have HTN := hid (htn w (Tn.thenNo (((Tn.refl No w).alloc _).alloc _) HT.out) (by omega) (by omega)); clear htn; refine bodyPost_ret (v := .tuple #[tkV k1 x1 ng1 (.slice sa1 sn1 sc1) b1 n1 p1, .int .i64 en1, msV c1 pp1]) (by simp [results, Tryz.results32, go_sem, tkV, msV, q0, q1, q2, q3, q4, q5, q6, r0, r1]) rfl ?_; exact ⟨HTN.out, _, _, _, _, _, _, _, _, _, _, _, _, rfl, HSH.out.pass hoth hsz (by first | (simp; done) | (simp; omega) | omega) (by first | (simp; done) | (simp; omega) | omega)⟩
    | false =>
      rw [if_neg (by simp)]
      rw [hv] at HL
      clear hv hl hcast
      go_enter Tryz.func32, Tryz.ntmps32
      go_wp2_with (first
        | (go_at_call 25; refine (HB1.out _).mono ?_; rintro e w' ⟨rfl, rfl⟩)
        | (go_at_call 26; refine (HL.out _).mono ?_; rintro e w' ⟨rfl, rfl⟩)
        | (go_at_call 37; refine (HF.out _).mono ?_; rintro e w1 ⟨ht, k1, x1, ng1, sa1, sn1, sc1, b1, n1, p1, en1, c1, pp1, rfl, hsh⟩; simp only [tkV, msV]; have HSH := hid hsh; clear hsh; obtain ⟨⟨k1, f1⟩, ⟨k2, f2⟩, s1, s2, hz⟩ := two_blocks ht; have HS1 := hid (fun i (hi : i < 7) => s1 i hi); have HS2 := hid (fun i (hi : i < 2) => s2 i hi); clear s1 s2; have k10 := k1 0; have k11 := k1 1; have k12 := k1 2; have k13 := k1 3; have k14 := k1 4; have k15 := k1 5; have k16 := k1 6; have k20 := k2 0; have k21 := k2 1; simp at k10 k11 k12 k13 k14 k15 k16 k20 k21; clear k1 k2; have HT := hid ht; clear ht; have hzA := Nat.lt_of_lt_of_le (Nat.lt_add_of_pos_right (by decide : 0 < 2)) hz; have hzB := Nat.lt_of_lt_of_le (Nat.add_lt_add_left (by decide : 1 < 2) _) hz))
      change bodyPost _ _ _ _ _ (put9 w1 w.heap.size (w.heap.size + 1) _ _ _ _ _ _ _ _ _); refine put9_all (bodyPost _ _ _ _ _) (by omega) HS1.out HS2.out ?_; rintro W ⟨q0, q1, q2, q3, q4, q5, q6, r0, r1⟩ hoth hsz htn; have HTN := hid (htn w (Tn.thenNo (((Tn.refl No w).alloc _).alloc _) HT.out) (by omega) (by omega)); clear htn; refine bodyPost_ret (v := .tuple #[tkV k1 x1 ng1 (.slice sa1 sn1 sc1) b1 n1 p1, .int .i64 en1, msV c1 pp1]) (by simp [results, Tryz.results32, go_sem, tkV, msV, q0, q1, q2, q3, q4, q5, q6, r0, r1]) rfl ?_; exact ⟨HTN.out, _, _, _, _, _, _, _, _, _, _, _, _, rfl, HSH.out.pass hoth hsz (by first | (simp; done) | (simp; omega) | omega) (by first | (simp; done) | (simp; omega) | omega)⟩

/-! ### names -/
theorem nmF_fuel (s : ByteArray) : ∀ k k' e, s.size - e ≤ k → s.size - e ≤ k' → nmF s k e = nmF s k' e := by
  have hn : ∀ e, ¬ e < s.size → ¬ (bt s e = 46 ∧ isL (bt s (e + 1)) = true) := fun e h h1 => h (lt_of_bt (by omega))
  intro k
  induction k with
  | zero =>
    intro k' e h _
    cases k' with
    | zero => rfl
    | succ k' =>
      unfold nmF
      rw [if_neg (hn e (by omega))]
  | succ k ih =>
    intro k' e h h'
    cases k' with
    | zero =>
      unfold nmF
      rw [if_neg (hn e (by omega))]
    | succ k' =>
      unfold nmF
      have hg := run_ge isN s (e + 1)
      rw [ih k' (run isN s (e + 1)) (by omega) (by omega)]
theorem nm_stop {s : ByteArray} {e : Nat} (h : ¬ (bt s e = 46 ∧ isL (bt s (e + 1)) = true)) : nm s e = .inr e := by
  unfold nm
  cases s.size - e with
  | zero => rfl
  | succ k => unfold nmF; rw [if_neg h]
theorem nm_bad {s : ByteArray} {e : Nat} (h : bt s e = 46 ∧ isL (bt s (e + 1)) = true) (hr : resv (s.extract (e + 1) (run isN s (e + 1))).data.toList = true) : nm s e = .inl (e + 1) := by
  have := lt_of_bt (s := s) (a := e) (by omega)
  unfold nm
  obtain ⟨k, hk⟩ : ∃ k, s.size - e = k + 1 := ⟨s.size - e - 1, by omega⟩
  rw [hk]
  unfold nmF; rw [if_pos h, if_pos hr]
theorem nm_go {s : ByteArray} {e : Nat} (h : bt s e = 46 ∧ isL (bt s (e + 1)) = true) (hr : resv (s.extract (e + 1) (run isN s (e + 1))).data.toList = false) : nm s e = nm s (run isN s (e + 1)) := by
  have := lt_of_bt (s := s) (a := e) (by omega)
  have hg := run_ge isN s (e + 1)
  unfold nm
  obtain ⟨k, hk⟩ : ∃ k, s.size - e = k + 1 := ⟨s.size - e - 1, by omega⟩
  rw [hk]
  rw [show nmF s (k + 1) e = nmF s k (run isN s (e + 1)) by conv => lhs; unfold nmF; rw [if_pos h, if_neg (by rw [hr]; simp)]]
  exact nmF_fuel s _ _ _ (by omega) (Nat.le_refl _)

def nmO (s : ByteArray) (a : Nat) : Nat ⊕ Nat → Wd
  | .inl p => .bad 32 p
  | .inr e => limd 1 s a e 64
theorem nameW_eq (s : ByteArray) (a : Nat) : nameW s a = if resv (s.extract a (run isN s a)).data.toList = true then stands 8 s a (run isN s a) else nmO s a (nm s (run isN s a)) := by
  unfold nameW nmO
  split
  · rfl
  · cases nm s (run isN s a) <;> rfl

set_option maxHeartbeats 1000000 in
set_option maxRecDepth 100000 in
theorem name_raw (s : ByteArray) (a : Nat) (w : World) (hs : s.size ≤ 65536) (ha : a ≤ s.size) :
    Calls Tryz.prog 27 #[.string s, .int .i64 (a : Int)] w (WPost w (nameW s a)) := by
  have hge := run_ge isN s a
  have hle := run_le isN s a ha
  have HB := hid (fun w => behind_names s a w (by omega) ha)
  have hr := fun w => reserved_raw (s.extract a (run isN s a)) w
  obtain ⟨e0, he⟩ : ∃ e, run isN s a = e := ⟨_, rfl⟩
  rw [nameW_eq]
  rw [he] at hge hle HB hr ⊢
  cases hv : resv (s.extract a e0).data.toList with
  | true =>
    rw [if_pos rfl]
    rw [hv] at hr
    have HR := hid hr
    have HC := hid (fun w => stands_raw 8 s a e0 w hs hge hle)
    clear hr hv he
    go_enter Tryz.func27, Tryz.ntmps27
    go_wp2_with (first
      | (go_at_call 53; refine (HB.out _).mono ?_; rintro e w' ⟨rfl, rfl⟩)
      | (go_at_call 11; refine (HR.out _).mono ?_; rintro e w' ⟨rfl, rfl⟩)
      | (go_at_call 34; refine (HC.out _).mono ?_; rintro e w1 ⟨ht, k1, x1, ng1, sa1, sn1, sc1, b1, n1, p1, en1, c1, pp1, rfl, hsh⟩; simp only [tkV, msV]; have HSH := hid hsh; clear hsh; obtain ⟨⟨k1, f1⟩, ⟨k2, f2⟩, s1, s2, hz⟩ := two_blocks ht; have HS1 := hid (fun i (hi : i < 7) => s1 i hi); have HS2 := hid (fun i (hi : i < 2) => s2 i hi); clear s1 s2; have k10 := k1 0; have k11 := k1 1; have k12 := k1 2; have k13 := k1 3; have k14 := k1 4; have k15 := k1 5; have k16 := k1 6; have k20 := k2 0; have k21 := k2 1; simp at k10 k11 k12 k13 k14 k15 k16 k20 k21; clear k1 k2; have HT := hid ht; clear ht; have hzA := Nat.lt_of_lt_of_le (Nat.lt_add_of_pos_right (by decide : 0 < 2)) hz; have hzB := Nat.lt_of_lt_of_le (Nat.add_lt_add_left (by decide : 1 < 2) _) hz))
    change bodyPost _ _ _ _ _ (put9 w1 w.heap.size (w.heap.size + 1) _ _ _ _ _ _ _ _ _); refine put9_all (bodyPost _ _ _ _ _) (by omega) HS1.out HS2.out ?_; rintro W ⟨q0, q1, q2, q3, q4, q5, q6, r0, r1⟩ hoth hsz htn; have HTN := hid (htn w (Tn.thenNo (((Tn.refl No w).alloc _).alloc _) HT.out) (by omega) (by omega)); clear htn; refine bodyPost_ret (v := .tuple #[tkV k1 x1 ng1 (.slice sa1 sn1 sc1) b1 n1 p1, .int .i64 en1, msV c1 pp1]) (by simp [results, Tryz.results27, go_sem, tkV, msV, q0, q1, q2, q3, q4, q5, q6, r0, r1]) rfl ?_; exact ⟨HTN.out, _, _, _, _, _, _, _, _, _, _, _, _, rfl, HSH.out.pass hoth hsz (by first | (simp; done) | (simp; omega) | omega) (by first | (simp; done) | (simp; omega) | omega)⟩
  | false =>
    rw [if_neg (by simp)]
    rw [hv] at hr
    have HR := hid hr
    obtain ⟨O, hO⟩ : ∃ O, nmO s a (nm s e0) = O := ⟨_, rfl⟩
    rw [hO]
    have HO := hid hO
    clear hr hv he hO
    go_enter Tryz.func27, Tryz.ntmps27
    go_wp2_with (first
      | (go_at_call 53; refine (HB.out _).mono ?_; rintro e w' ⟨rfl, rfl⟩; clear HB)
      | (go_at_call 11; refine (HR.out _).mono ?_; rintro e w' ⟨rfl, rfl⟩; clear HR))
    go_loop [7] (fun i => ∃ k : Nat, a ≤ k ∧ k ≤ s.size ∧ i = .int .i64 (k : Int) ∧ Hid (nmO s a (nm s k) = O)) (fun i => s.size - (intOf i).toNat)
    case atStart => exact ⟨e0, hge, hle, rfl, HO⟩
    case round =>
      obtain ⟨k, hk1, hk2, rfl, HP⟩ := hrel
      clear HO hge hle
      have HB1 := hid (fun w => byteAt_raw s k w (by omega))
      have HB2 := hid (fun w => byteAt_raw s (k + 1) w (by omega))
      have HL := hid (fun w => letter_raw (bt s (k + 1)) w (bt_nonneg s _) (bt_le s _))
      have hcast : ((k + 1 : Nat) : Int) = (k : Int) + 1 := by omega
      rw [hcast] at HB2
      by_cases hdot : bt s k = 46
      · rw [hdot] at HB1
        cases hv : isL (bt s (k + 1)) with
        | true =>
          rw [hv] at HL
          have hlt := lt_of_p isL_0 hv
          have hge := run_ge isN s (k + 1)
          have hle := run_le isN s (k + 1) (by omega)
          have HN := hid (fun w => behind_names s (k + 1) w (by omega) (by omega))
          rw [hcast] at HN
          have hrr := fun w => reserved_raw (s.extract (k + 1) (run isN s (k + 1))) w
          cases hw : resv (s.extract (k + 1) (run isN s (k + 1))).data.toList with
          | true =>
            rw [hw] at hrr
            have HR := hid hrr
            have hnb := nm_bad ⟨hdot, hv⟩ hw
            have hob : O = .bad 32 (k + 1) := by rw [← HP.out, hnb]; rfl
            subst hob
            have HF := hid (fun w => failed_raw 32 (k + 1) w)
            rw [hcast] at HF
            obtain ⟨e1, he1⟩ : ∃ e, run isN s (k + 1) = e := ⟨_, rfl⟩
            rw [he1] at HN HR hge hle
            clear hrr hw hv hdot hnb HP he1
            go_wp2_with (first
              | (go_at_call 25; first | (refine (HB1.out _).mono ?_; rintro e w' ⟨rfl, rfl⟩; clear HB1) | (refine (HB2.out _).mono ?_; rintro e w' ⟨rfl, rfl⟩))
              | (go_at_call 26; refine (HL.out _).mono ?_; rintro e w' ⟨rfl, rfl⟩)
              | (go_at_call 53; refine (HN.out _).mono ?_; rintro e w' ⟨rfl, rfl⟩)
              | (go_at_call 11; refine (HR.out _).mono ?_; rintro e w' ⟨rfl, rfl⟩)
              | (go_at_call 37; refine (HF.out _).mono ?_; rintro e w1 ⟨ht, k1, x1, ng1, sa1, sn1, sc1, b1, n1, p1, en1, c1, pp1, rfl, hsh⟩; simp only [tkV, msV]; have HSH := hid hsh; clear hsh; obtain ⟨⟨k1, f1⟩, ⟨k2, f2⟩, s1, s2, hz⟩ := two_blocks ht; have HS1 := hid (fun i (hi : i < 7) => s1 i hi); have HS2 := hid (fun i (hi : i < 2) => s2 i hi); clear s1 s2; have k10 := k1 0; have k11 := k1 1; have k12 := k1 2; have k13 := k1 3; have k14 := k1 4; have k15 := k1 5; have k16 := k1 6; have k20 := k2 0; have k21 := k2 1; simp at k10 k11 k12 k13 k14 k15 k16 k20 k21; clear k1 k2; have HT := hid ht; clear ht; have hzA := Nat.lt_of_lt_of_le (Nat.lt_add_of_pos_right (by decide : 0 < 2)) hz; have hzB := Nat.lt_of_lt_of_le (Nat.add_lt_add_left (by decide : 1 < 2) _) hz))
            change bodyPost _ _ _ _ _ (put9 w1 w.heap.size (w.heap.size + 1) _ _ _ _ _ _ _ _ _); refine put9_all (bodyPost _ _ _ _ _) (by omega) HS1.out HS2.out ?_; rintro W ⟨q0, q1, q2, q3, q4, q5, q6, r0, r1⟩ hoth hsz htn; have HTN := hid (htn w (Tn.thenNo (((Tn.refl No w).alloc _).alloc _) HT.out) (by omega) (by omega)); clear htn; refine bodyPost_ret (v := .tuple #[tkV k1 x1 ng1 (.slice sa1 sn1 sc1) b1 n1 p1, .int .i64 en1, msV c1 pp1]) (by simp [results, Tryz.results27, go_sem, tkV, msV, q0, q1, q2, q3, q4, q5, q6, r0, r1]) rfl ?_; exact ⟨HTN.out, _, _, _, _, _, _, _, _, _, _, _, _, rfl, HSH.out.pass hoth hsz (by first | (simp; done) | (simp; omega) | omega) (by first | (simp; done) | (simp; omega) | omega)⟩
          | false =>
            rw [hw] at hrr
            have HR := hid hrr
            have HNG := hid (nm_go ⟨hdot, hv⟩ hw)
            obtain ⟨e1, he1⟩ : ∃ e, run isN s (k + 1) = e := ⟨_, rfl⟩
            rw [he1] at HN HR hge hle HNG
            clear hrr hw hv hdot he1
            go_wp2_with (first
              | (go_at_call 25; first | (refine (HB1.out _).mono ?_; rintro e w' ⟨rfl, rfl⟩; clear HB1) | (refine (HB2.out _).mono ?_; rintro e w' ⟨rfl, rfl⟩))
              | (go_at_call 26; refine (HL.out _).mono ?_; rintro e w' ⟨rfl, rfl⟩)
              | (go_at_call 53; refine (HN.out _).mono ?_; rintro e w' ⟨rfl, rfl⟩)
              | (go_at_call 11; refine (HR.out _).mono ?_; rintro e w' ⟨rfl, rfl⟩))
            refine ⟨⟨e1, by omega, hle, rfl, hid (by rw [← HNG.out]; exact HP.out)⟩, ?_⟩
            simp [intOf]; omega
        | false =>
          rw [hv] at HL
          have hns := nm_stop (s := s) (e := k) (fun h => by rw [hv] at h; cases h.2)
          have hob : O = limd 1 s a k 64 := by rw [← HP.out, hns]; rfl
          subst hob
          have HC := hid (fun w => limited_raw 1 s a k 64 w hs hk1 hk2 (by omega))
          clear hv hdot hns HP
          go_wp2_with (first
            | (go_at_call 25; first | (refine (HB1.out _).mono ?_; rintro e w' ⟨rfl, rfl⟩; clear HB1) | (refine (HB2.out _).mono ?_; rintro e w' ⟨rfl, rfl⟩))
            | (go_at_call 26; refine (HL.out _).mono ?_; rintro e w' ⟨rfl, rfl⟩)
            | (go_at_call 55; refine (HC.out _).mono ?_; rintro e w1 ⟨ht, k1, x1, ng1, sa1, sn1, sc1, b1, n1, p1, en1, c1, pp1, rfl, hsh⟩; simp only [tkV, msV]; have HSH := hid hsh; clear hsh; obtain ⟨⟨k1, f1⟩, ⟨k2, f2⟩, s1, s2, hz⟩ := two_blocks ht; have HS1 := hid (fun i (hi : i < 7) => s1 i hi); have HS2 := hid (fun i (hi : i < 2) => s2 i hi); clear s1 s2; have k10 := k1 0; have k11 := k1 1; have k12 := k1 2; have k13 := k1 3; have k14 := k1 4; have k15 := k1 5; have k16 := k1 6; have k20 := k2 0; have k21 := k2 1; simp at k10 k11 k12 k13 k14 k15 k16 k20 k21; clear k1 k2; have HT := hid ht; clear ht; have hzA := Nat.lt_of_lt_of_le (Nat.lt_add_of_pos_right (by decide : 0 < 2)) hz; have hzB := Nat.lt_of_lt_of_le (Nat.add_lt_add_left (by decide : 1 < 2) _) hz))
          change bodyPost _ _ _ _ _ (put9 w1 w.heap.size (w.heap.size + 1) _ _ _ _ _ _ _ _ _); refine put9_all (bodyPost _ _ _ _ _) (by omega) HS1.out HS2.out ?_; rintro W ⟨q0, q1, q2, q3, q4, q5, q6, r0, r1⟩ hoth hsz htn; have HTN := hid (htn w (Tn.thenNo (((Tn.refl No w).alloc _).alloc _) HT.out) (by omega) (by omega)); clear htn; refine bodyPost_ret (v := .tuple #[tkV k1 x1 ng1 (.slice sa1 sn1 sc1) b1 n1 p1, .int .i64 en1, msV c1 pp1]) (by simp [results, Tryz.results27, go_sem, tkV, msV, q0, q1, q2, q3, q4, q5, q6, r0, r1]) rfl ?_; exact ⟨HTN.out, _, _, _, _, _, _, _, _, _, _, _, _, rfl, HSH.out.pass hoth hsz (by first | (simp; done) | (simp; omega) | omega) (by first | (simp; done) | (simp; omega) | omega)⟩
      · have hns := nm_stop (s := s) (e := k) (fun h => hdot h.1)
        have hob : O = limd 1 s a k 64 := by rw [← HP.out, hns]; rfl
        subst hob
        have HC := hid (fun w => limited_raw 1 s a k 64 w hs hk1 hk2 (by omega))
        clear hns HP HB2 HL
        go_wp2_with (first
          | (go_at_call 25; refine (HB1.out _).mono ?_; rintro e w' ⟨rfl, rfl⟩)
          | (go_at_call 55; refine (HC.out _).mono ?_; rintro e w1 ⟨ht, k1, x1, ng1, sa1, sn1, sc1, b1, n1, p1, en1, c1, pp1, rfl, hsh⟩; simp only [tkV, msV]; have HSH := hid hsh; clear hsh; obtain ⟨⟨k1, f1⟩, ⟨k2, f2⟩, s1, s2, hz⟩ := two_blocks ht; have HS1 := hid (fun i (hi : i < 7) => s1 i hi); have HS2 := hid (fun i (hi : i < 2) => s2 i hi); clear s1 s2; have k10 := k1 0; have k11 := k1 1; have k12 := k1 2; have k13 := k1 3; have k14 := k1 4; have k15 := k1 5; have k16 := k1 6; have k20 := k2 0; have k21 := k2 1; simp at k10 k11 k12 k13 k14 k15 k16 k20 k21; clear k1 k2; have HT := hid ht; clear ht; have hzA := Nat.lt_of_lt_of_le (Nat.lt_add_of_pos_right (by decide : 0 < 2)) hz; have hzB := Nat.lt_of_lt_of_le (Nat.add_lt_add_left (by decide : 1 < 2) _) hz))
        change bodyPost _ _ _ _ _ (put9 w1 w.heap.size (w.heap.size + 1) _ _ _ _ _ _ _ _ _); refine put9_all (bodyPost _ _ _ _ _) (by omega) HS1.out HS2.out ?_; rintro W ⟨q0, q1, q2, q3, q4, q5, q6, r0, r1⟩ hoth hsz htn; have HTN := hid (htn w (Tn.thenNo (((Tn.refl No w).alloc _).alloc _) HT.out) (by omega) (by omega)); clear htn; refine bodyPost_ret (v := .tuple #[tkV k1 x1 ng1 (.slice sa1 sn1 sc1) b1 n1 p1, .int .i64 en1, msV c1 pp1]) (by simp [results, Tryz.results27, go_sem, tkV, msV, q0, q1, q2, q3, q4, q5, q6, r0, r1]) rfl ?_; exact ⟨HTN.out, _, _, _, _, _, _, _, _, _, _, _, _, rfl, HSH.out.pass hoth hsz (by first | (simp; done) | (simp; omega) | omega) (by first | (simp; done) | (simp; omega) | omega)⟩
end Go.Proofs.YtcmhfeeocehlaaaGreatDoor
