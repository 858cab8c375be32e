/-
  numberAt.
-/
import Derived.Test.YtcmhfeeocehlaaaGreatDoorNumbers
namespace Go.Proofs.YtcmhfeeocehlaaaGreatDoor
set_option linter.unusedSimpArgs false
set_option linter.unusedVariables false
open Go.RowKit Go.PlainAid
attribute [local go_sem ↓] Go.wp_at_zero Go.wp_at_succ

theorem runF_all (p : Int → Bool) (s : ByteArray) : ∀ f a k, a ≤ k → k < runF p s f a → p (bt s k) = true
  | 0, a, k, h1, h2 => by unfold runF at h2; omega
  | f + 1, a, k, h1, h2 => by
    unfold runF at h2
    split at h2
    · rename_i hp
      rcases Nat.eq_or_lt_of_le h1 with rfl | h
      · exact hp
      · exact runF_all p s f (a + 1) k (by omega) h2
    · omega
theorem run_all {p : Int → Bool} {s : ByteArray} {a k : Nat} (h1 : a ≤ k) (h2 : k < run p s a) : p (bt s k) = true := runF_all p s _ a k h1 h2
theorem seg_getD (s : ByteArray) (a e j : Nat) (hj : a + j < e) : (s.extract a e).data.toList.getD j 0 = s.data.toList.getD (a + j) 0 := by
  rw [ext_list, getD_drop]
  simp only [List.getD_eq_getElem?_getD, List.getElem?_take]
  rw [if_pos hj]
theorem isD_byte (s : ByteArray) (k : Nat) : isD (bt s k) = isDig (s.data.toList.getD k 0) := by
  rw [bt_list, Bool.eq_iff_iff, isD_iff]
  simp [isDig]
  omega
theorem seg_dig (s : ByteArray) (a e : Nat) (he : e ≤ s.size) (h : ∀ k, a ≤ k → k < e → isD (bt s k) = true) : (s.extract a e).data.toList.all isDig = true := by
  rw [List.all_eq_true]
  intro c hc
  obtain ⟨j, hj, rfl⟩ := List.getElem_of_mem hc
  have hl : (s.extract a e).data.toList.length = e - a := by rw [← Lib.size_eq]; exact ext_size2 s a e he
  have hg := seg_getD s a e j (by omega)
  rw [List.getD_eq_getElem?_getD, List.getElem?_eq_getElem hj, Option.getD_some] at hg
  rw [hg, ← isD_byte]
  exact h _ (by omega) (by omega)
theorem seg_cons (s : ByteArray) (a e : Nat) (ha : a < e) (he : e ≤ s.size) : (s.extract a e).data.toList = s.data.toList.getD a 0 :: (s.extract (a + 1) e).data.toList := by
  rw [ext_list, ext_list]
  have hl : a < (s.data.toList.take e).length := by rw [List.length_take, ← Lib.size_eq]; omega
  rw [List.drop_eq_getElem_cons hl]
  congr 1
  rw [List.getElem_take, List.getD_eq_getElem?_getD, List.getElem?_eq_getElem]
  rfl

theorem nuD_lt {s : ByteArray} {a : Nat} (h : isNum s a = true) : nuD s a < s.size ∧ isD (bt s (nuD s a)) = true ∧ a ≤ nuD s a ∧ nuD s a ≤ a + 1 := by
  unfold isNum at h
  have hd : isD (bt s (nuD s a)) = true := by
    unfold nuD
    by_cases h1 : bt s a = 126
    · rw [if_pos h1]
      rw [h1] at h
      simpa [isD] using h
    · rw [if_neg h1]
      have h2 : (bt s a == 126) = false := by simpa using h1
      rw [h2] at h
      simpa using h
  refine ⟨lt_of_p isD_0 hd, hd, ?_, ?_⟩ <;> (unfold nuD; split <;> omega)
theorem whole_lt {s : ByteArray} {a : Nat} (h : isNum s a = true) : nuD s a < whole s a ∧ whole s a ≤ s.size := by
  obtain ⟨h1, h2, _, _⟩ := nuD_lt h
  exact ⟨run_gt isD_0 h2, run_le _ _ _ (by omega)⟩
theorem frac_ge (s : ByteArray) (a : Nat) (ha : a ≤ s.size) : a ≤ frac s a ∧ frac s a ≤ s.size := by
  unfold frac
  split
  · rename_i h
    have := lt_of_p isD_0 h.2
    have := run_ge isD s (a + 1)
    have := run_le isD s (a + 1) (by omega)
    omega
  · omega
theorem expo_ge (s : ByteArray) (a : Nat) (ha : a ≤ s.size) : a ≤ expo s a ∧ expo s a ≤ s.size := by
  unfold expo
  split
  · rename_i h
    have := lt_of_p isD_0 h.2
    have := run_ge isD s (exD s a)
    have := run_le isD s (exD s a) (by omega)
    have : a ≤ exD s a := by unfold exD; split <;> omega
    omega
  · omega
theorem numE_ge {s : ByteArray} {a : Nat} (h : isNum s a = true) : whole s a ≤ numE s a ∧ numE s a ≤ s.size := by
  have h1 := whole_lt h
  have h2 := frac_ge s (whole s a) h1.2
  have h3 := expo_ge s (frac s (whole s a)) h2.2
  unfold numE
  omega
theorem num_dw {s : ByteArray} {a : Nat} (hs : s.size ≤ 65536) (h : isNum s a = true) : DW (s.extract a (whole s a)) (zof (s.extract a (whole s a)).data.toList) := by
  obtain ⟨h1, h2, h3, h4⟩ := nuD_lt h
  obtain ⟨h5, h6⟩ := whole_lt h
  have hz := ext_size2 s a (whole s a) h6
  have hd : (s.extract (nuD s a) (whole s a)).data.toList.all isDig = true := seg_dig s _ _ h6 (fun k hk1 hk2 => run_all hk1 hk2)
  have hne : (s.extract (nuD s a) (whole s a)).data.toList ≠ [] := by
    rw [seg_cons s _ _ h5 h6]; simp
  refine dw_of _ (s.extract (nuD s a) (whole s a)).data.toList (by omega) hd hne ?_
  by_cases hq : bt s a = 126
  · have hn : nuD s a = a + 1 := by unfold nuD; rw [if_pos hq]
    right
    rw [hn, seg_cons s a _ (by omega) h6]
    congr 1
    rw [bt_list] at hq
    apply UInt8.toNat_inj.1
    have h126 : (126 : UInt8).toNat = 126 := rfl
    omega
  · have hn : nuD s a = a := by unfold nuD; rw [if_neg hq]
    left
    rw [hn]

set_option maxHeartbeats 2000000 in
set_option maxRecDepth 100000 in
theorem number_raw (rb : ByteArray → Int) (s : ByteArray) (a : Nat) (w : World) (hs : s.size ≤ 65536) (hn : isNum s a = true) (hr : ¬ numE s a = whole s a → ¬ 100 < numE s a - a → RBW (s.extract a (numE s a)) (rb (s.extract a (numE s a)))) :
    Calls Tryz.prog 29 #[.string s, .int .i64 (a : Int)] w (WPost w (numW rb s a)) := by
  obtain ⟨h1, h2, h3, h4⟩ := nuD_lt hn
  obtain ⟨h5, h6⟩ := whole_lt hn
  obtain ⟨h7, h8⟩ := numE_ge hn
  have hdw := num_dw hs hn
  have hfr := frac_ge s (whole s a) h6
  have hal : a < s.size := by omega
  have hb := get_bt s a hal
  have HW := hid (fun w => behind_digits s (nuD s a) w (by omega) (by omega))
  have HF := hid (fun w => frac_raw s (whole s a) w hs h6)
  have HE := hid (fun w => expo_raw s (frac s (whole s a)) w hs hfr.2)
  have hnum : numE s a = expo s (frac s (whole s a)) := rfl
  have hwh : whole s a = run isD s (nuD s a) := rfl
  rw [← hnum] at HE
  rw [← hwh] at HW
  have hI := fun (h : numE s a = whole s a) w => integerAt_raw s a (numE s a) (zof (s.extract a (numE s a)).data.toList) w hs (by omega) h8 (by rw [h]; exact hdw)
  have hR := fun (h : ¬ numE s a = whole s a) w => realAt_raw s a (numE s a) (rb (s.extract a (numE s a))) w hs (by omega) h8 (hr h)
  have hO1 : numE s a = whole s a → numW rb s a = if 2000 < numE s a - a then .bad 32 a else .ok ⟨4, s.extract a (numE s a), zof (s.extract a (numE s a)).data.toList, 0, 0, a⟩ (numE s a) := fun h => by unfold numW; rw [if_pos h]
  have hO2 : ¬ numE s a = whole s a → numW rb s a = if 100 < numE s a - a then .bad 32 a else .ok ⟨5, s.extract a (numE s a), 0, rb (s.extract a (numE s a)), 0, a⟩ (numE s a) := fun h => by unfold numW; rw [if_neg h]
  obtain ⟨f, hf⟩ : ∃ f, frac s (whole s a) = f := ⟨_, rfl⟩
  rw [hf] at HF HE
  obtain ⟨d, hd⟩ : ∃ d, nuD s a = d := ⟨_, rfl⟩
  obtain ⟨O, hO⟩ : ∃ O, numW rb s a = O := ⟨_, rfl⟩
  rw [hO] at hO1 hO2 ⊢
  obtain ⟨e, he⟩ : ∃ e, numE s a = e := ⟨_, rfl⟩
  obtain ⟨wh, hwh'⟩ : ∃ wh, whole s a = wh := ⟨_, rfl⟩
  rw [he, hwh'] at hI hR hO1 hO2
  rw [he] at HE
  rw [hwh'] at HW HF
  have hle : wh ≤ e := by omega
  have hda : d = if bt s a = 126 then a + 1 else a := by rw [← hd]; rfl
  rw [hd] at HW
  clear hdw hfr hnum hwh hr hn hf hO he hwh' hd h1 h2 h3 h4 h5 h6 h7 h8
  by_cases hq : bt s a = 126
  · rw [if_pos hq] at hda
    rw [hq] at hb
    subst hda
    rw [cast1] at HW
    clear hq
    by_cases h : e = wh
    · have HC := hid (hI h)
      rw [← hO1 h] at HC
      clear hI hR hO1 hO2
      subst h
      go_enter Tryz.func29, Tryz.ntmps29
      go_wp2_with (first
        | (go_at_call 53; refine (HW.out _).mono ?_; rintro e w' ⟨rfl, rfl⟩)
        | (go_at_call 57; refine (HF.out _).mono ?_; rintro e w' ⟨rfl, rfl⟩)
        | (go_at_call 56; refine (HE.out _).mono ?_; rintro e w' ⟨rfl, rfl⟩)
        | (go_at_call 58; refine (HC.out _).mono ?_; rintro e w1 ⟨ht, k1, x1, ng1, sa1, sn1, sc1, b1, n1, p1, en1, c1, pp1, rfl, hsh⟩; simp only [tkV, msV]; have HSH := hid hsh; clear hsh; obtain ⟨⟨k1, f1⟩, ⟨k2, f2⟩, s1, s2, hz⟩ := two_blocks ht; have HS1 := hid (fun i (hi : i < 7) => s1 i hi); have HS2 := hid (fun i (hi : i < 2) => s2 i hi); clear s1 s2; have k10 := k1 0; have k11 := k1 1; have k12 := k1 2; have k13 := k1 3; have k14 := k1 4; have k15 := k1 5; have k16 := k1 6; have k20 := k2 0; have k21 := k2 1; simp at k10 k11 k12 k13 k14 k15 k16 k20 k21; clear k1 k2; have HT := hid ht; clear ht; have hzA := Nat.lt_of_lt_of_le (Nat.lt_add_of_pos_right (by decide : 0 < 2)) hz; have hzB := Nat.lt_of_lt_of_le (Nat.add_lt_add_left (by decide : 1 < 2) _) hz))
      change bodyPost _ _ _ _ _ (put9 w1 w.heap.size (w.heap.size + 1) _ _ _ _ _ _ _ _ _); refine put9_all (bodyPost _ _ _ _ _) (by omega) HS1.out HS2.out ?_; rintro W ⟨q0, q1, q2, q3, q4, q5, q6, r0, r1⟩ hoth hsz htn; have HTN := hid (htn w (Tn.thenNo (((Tn.refl No w).alloc _).alloc _) HT.out) (by omega) (by omega)); clear htn; refine bodyPost_ret (v := .tuple #[tkV k1 x1 ng1 (.slice sa1 sn1 sc1) b1 n1 p1, .int .i64 en1, msV c1 pp1]) (by simp [results, Tryz.results29, go_sem, tkV, msV, q0, q1, q2, q3, q4, q5, q6, r0, r1]) rfl ?_; exact ⟨HTN.out, _, _, _, _, _, _, _, _, _, _, _, _, rfl, HSH.out.pass hoth hsz (by first | (simp; done) | (simp; omega) | omega) (by first | (simp; done) | (simp; omega) | omega)⟩
    · have HC := hid (hR h)
      rw [← hO2 h] at HC
      have hne : ((e : Int) == (wh : Int)) = false := by rw [beq_eq_false_iff_ne]; omega
      clear hI hR hO1 hO2
      go_enter Tryz.func29, Tryz.ntmps29
      go_wp2_with (first
        | (go_at_call 53; refine (HW.out _).mono ?_; rintro e w' ⟨rfl, rfl⟩)
        | (go_at_call 57; refine (HF.out _).mono ?_; rintro e w' ⟨rfl, rfl⟩)
        | (go_at_call 56; refine (HE.out _).mono ?_; rintro e w' ⟨rfl, rfl⟩)
        | (go_at_call 59; refine (HC.out _).mono ?_; rintro e w1 ⟨ht, k1, x1, ng1, sa1, sn1, sc1, b1, n1, p1, en1, c1, pp1, rfl, hsh⟩; simp only [tkV, msV]; have HSH := hid hsh; clear hsh; obtain ⟨⟨k1, f1⟩, ⟨k2, f2⟩, s1, s2, hz⟩ := two_blocks ht; have HS1 := hid (fun i (hi : i < 7) => s1 i hi); have HS2 := hid (fun i (hi : i < 2) => s2 i hi); clear s1 s2; have k10 := k1 0; have k11 := k1 1; have k12 := k1 2; have k13 := k1 3; have k14 := k1 4; have k15 := k1 5; have k16 := k1 6; have k20 := k2 0; have k21 := k2 1; simp at k10 k11 k12 k13 k14 k15 k16 k20 k21; clear k1 k2; have HT := hid ht; clear ht; have hzA := Nat.lt_of_lt_of_le (Nat.lt_add_of_pos_right (by decide : 0 < 2)) hz; have hzB := Nat.lt_of_lt_of_le (Nat.add_lt_add_left (by decide : 1 < 2) _) hz))
      change bodyPost _ _ _ _ _ (put9 w1 w.heap.size (w.heap.size + 1) _ _ _ _ _ _ _ _ _); refine put9_all (bodyPost _ _ _ _ _) (by omega) HS1.out HS2.out ?_; rintro W ⟨q0, q1, q2, q3, q4, q5, q6, r0, r1⟩ hoth hsz htn; have HTN := hid (htn w (Tn.thenNo (((Tn.refl No w).alloc _).alloc _) HT.out) (by omega) (by omega)); clear htn; refine bodyPost_ret (v := .tuple #[tkV k1 x1 ng1 (.slice sa1 sn1 sc1) b1 n1 p1, .int .i64 en1, msV c1 pp1]) (by simp [results, Tryz.results29, go_sem, tkV, msV, q0, q1, q2, q3, q4, q5, q6, r0, r1]) rfl ?_; exact ⟨HTN.out, _, _, _, _, _, _, _, _, _, _, _, _, rfl, HSH.out.pass hoth hsz (by first | (simp; done) | (simp; omega) | omega) (by first | (simp; done) | (simp; omega) | omega)⟩
  · rw [if_neg hq] at hda
    subst hda
    by_cases h : e = wh
    · have HC := hid (hI h)
      rw [← hO1 h] at HC
      clear hI hR hO1 hO2
      subst h
      go_enter Tryz.func29, Tryz.ntmps29
      go_wp2_with (first
        | (go_at_call 53; refine (HW.out _).mono ?_; rintro e w' ⟨rfl, rfl⟩)
        | (go_at_call 57; refine (HF.out _).mono ?_; rintro e w' ⟨rfl, rfl⟩)
        | (go_at_call 56; refine (HE.out _).mono ?_; rintro e w' ⟨rfl, rfl⟩)
        | (go_at_call 58; refine (HC.out _).mono ?_; rintro e w1 ⟨ht, k1, x1, ng1, sa1, sn1, sc1, b1, n1, p1, en1, c1, pp1, rfl, hsh⟩; simp only [tkV, msV]; have HSH := hid hsh; clear hsh; obtain ⟨⟨k1, f1⟩, ⟨k2, f2⟩, s1, s2, hz⟩ := two_blocks ht; have HS1 := hid (fun i (hi : i < 7) => s1 i hi); have HS2 := hid (fun i (hi : i < 2) => s2 i hi); clear s1 s2; have k10 := k1 0; have k11 := k1 1; have k12 := k1 2; have k13 := k1 3; have k14 := k1 4; have k15 := k1 5; have k16 := k1 6; have k20 := k2 0; have k21 := k2 1; simp at k10 k11 k12 k13 k14 k15 k16 k20 k21; clear k1 k2; have HT := hid ht; clear ht; have hzA := Nat.lt_of_lt_of_le (Nat.lt_add_of_pos_right (by decide : 0 < 2)) hz; have hzB := Nat.lt_of_lt_of_le (Nat.add_lt_add_left (by decide : 1 < 2) _) hz))
      change bodyPost _ _ _ _ _ (put9 w1 w.heap.size (w.heap.size + 1) _ _ _ _ _ _ _ _ _); refine put9_all (bodyPost _ _ _ _ _) (by omega) HS1.out HS2.out ?_; rintro W ⟨q0, q1, q2, q3, q4, q5, q6, r0, r1⟩ hoth hsz htn; have HTN := hid (htn w (Tn.thenNo (((Tn.refl No w).alloc _).alloc _) HT.out) (by omega) (by omega)); clear htn; refine bodyPost_ret (v := .tuple #[tkV k1 x1 ng1 (.slice sa1 sn1 sc1) b1 n1 p1, .int .i64 en1, msV c1 pp1]) (by simp [results, Tryz.results29, go_sem, tkV, msV, q0, q1, q2, q3, q4, q5, q6, r0, r1]) rfl ?_; exact ⟨HTN.out, _, _, _, _, _, _, _, _, _, _, _, _, rfl, HSH.out.pass hoth hsz (by first | (simp; done) | (simp; omega) | omega) (by first | (simp; done) | (simp; omega) | omega)⟩
    · have HC := hid (hR h)
      rw [← hO2 h] at HC
      have hne : ((e : Int) == (wh : Int)) = false := by rw [beq_eq_false_iff_ne]; omega
      clear hI hR hO1 hO2
      go_enter Tryz.func29, Tryz.ntmps29
      go_wp2_with (first
        | (go_at_call 53; refine (HW.out _).mono ?_; rintro e w' ⟨rfl, rfl⟩)
        | (go_at_call 57; refine (HF.out _).mono ?_; rintro e w' ⟨rfl, rfl⟩)
        | (go_at_call 56; refine (HE.out _).mono ?_; rintro e w' ⟨rfl, rfl⟩)
        | (go_at_call 59; refine (HC.out _).mono ?_; rintro e w1 ⟨ht, k1, x1, ng1, sa1, sn1, sc1, b1, n1, p1, en1, c1, pp1, rfl, hsh⟩; simp only [tkV, msV]; have HSH := hid hsh; clear hsh; obtain ⟨⟨k1, f1⟩, ⟨k2, f2⟩, s1, s2, hz⟩ := two_blocks ht; have HS1 := hid (fun i (hi : i < 7) => s1 i hi); have HS2 := hid (fun i (hi : i < 2) => s2 i hi); clear s1 s2; have k10 := k1 0; have k11 := k1 1; have k12 := k1 2; have k13 := k1 3; have k14 := k1 4; have k15 := k1 5; have k16 := k1 6; have k20 := k2 0; have k21 := k2 1; simp at k10 k11 k12 k13 k14 k15 k16 k20 k21; clear k1 k2; have HT := hid ht; clear ht; have hzA := Nat.lt_of_lt_of_le (Nat.lt_add_of_pos_right (by decide : 0 < 2)) hz; have hzB := Nat.lt_of_lt_of_le (Nat.add_lt_add_left (by decide : 1 < 2) _) hz))
      change bodyPost _ _ _ _ _ (put9 w1 w.heap.size (w.heap.size + 1) _ _ _ _ _ _ _ _ _); refine put9_all (bodyPost _ _ _ _ _) (by omega) HS1.out HS2.out ?_; rintro W ⟨q0, q1, q2, q3, q4, q5, q6, r0, r1⟩ hoth hsz htn; have HTN := hid (htn w (Tn.thenNo (((Tn.refl No w).alloc _).alloc _) HT.out) (by omega) (by omega)); clear htn; refine bodyPost_ret (v := .tuple #[tkV k1 x1 ng1 (.slice sa1 sn1 sc1) b1 n1 p1, .int .i64 en1, msV c1 pp1]) (by simp [results, Tryz.results29, go_sem, tkV, msV, q0, q1, q2, q3, q4, q5, q6, r0, r1]) rfl ?_; exact ⟨HTN.out, _, _, _, _, _, _, _, _, _, _, _, _, rfl, HSH.out.pass hoth hsz (by first | (simp; done) | (simp; omega) | omega) (by first | (simp; done) | (simp; omega) | omega)⟩
end Go.Proofs.YtcmhfeeocehlaaaGreatDoor
