/-
  textAt, charAt.
-/
import Derived.Test.YtcmhfeeocehlaaaGreatDoorQuA
namespace Go.Proofs.YtcmhfeeocehlaaaGreatDoor
set_option linter.unusedSimpArgs false
set_option linter.unusedVariables false
open Go.RowKit Go.PlainAid
attribute [local go_sem ↓] Go.wp_at_zero Go.wp_at_succ

theorem quF_bad (s : ByteArray) : ∀ k a l c p, quF s k a l = .bad c p → c = 31 ∨ c = 32
  | 0, _, _, _, _, h => by cases h; exact .inl rfl
  | k + 1, a, l, c, p, h => by
    unfold quF at h
    split at h
    · cases h
    · split at h
      · split at h
        · cases h; exact .inr rfl
        · exact quF_bad s k _ _ _ _ h
      · split at h
        · split at h
          · cases h; exact .inr rfl
          · exact quF_bad s k _ _ _ _ h
        · cases h; exact .inl rfl
theorem str_size' (l : List UInt8) : (strOf l).size = l.length := by simp [strOf, ByteArray.size]
theorem qu_bad {s : ByteArray} {a : Nat} {l : List UInt8} {c : Int} {p : Nat} (h : qu s a l = .bad c p) : c = 31 ∨ c = 32 := quF_bad s _ _ _ _ _ h

set_option maxHeartbeats 2000000 in
set_option maxRecDepth 100000 in
theorem text_raw (s : ByteArray) (a : Nat) (w : World) (hs : s.size ≤ 65536) (ha : a < s.size) :
    Calls Tryz.prog 30 #[.string s, .int .i64 (a : Int)] w (WPost w (textW s a)) := by
  have hq := fun w => quoted_raw s a w hs ha
  unfold textW
  cases hr : qu s (a + 1) [] with
  | bad c p =>
    have hc : ¬ c = 0 := by rcases qu_bad hr with h | h <;> omega
    rw [hr] at hq
    have HQ := hid hq
    clear hq hr
    go_enter Tryz.func30, Tryz.ntmps30
    go_wp2_with (go_at_call 60; refine (HQ.out _).mono ?_; rintro e w1 ⟨ht, x1, en1, c1, pp1, rfl, rfl, rfl, rfl, rfl⟩; simp only [msV]; obtain ⟨⟨k1, f1⟩, ⟨k2, f2⟩, s1, s2, hz⟩ := two_blocks ht; have HS1 := hid (fun i (hi : i < 7) => s1 i hi); have HS2 := hid (fun i (hi : i < 2) => s2 i hi); clear s1 s2; have k10 := k1 0; have k11 := k1 1; have k12 := k1 2; have k13 := k1 3; have k14 := k1 4; have k15 := k1 5; have k16 := k1 6; have k20 := k2 0; have k21 := k2 1; simp at k10 k11 k12 k13 k14 k15 k16 k20 k21; clear k1 k2; have HT := hid ht; clear ht; have hzA := Nat.lt_of_lt_of_le (Nat.lt_add_of_pos_right (by decide : 0 < 2)) hz; have hzB := Nat.lt_of_lt_of_le (Nat.add_lt_add_left (by decide : 1 < 2) _) hz)
    go_region
    all_goals go_wp2_with fail
    change bodyPost _ _ _ _ _ ((((put9 w1 w.heap.size (w.heap.size + 1) _ _ _ _ _ _ _ _ _)).alloc _).drew); refine put9_all (fun W => bodyPost _ _ _ _ _ (((W).alloc _).drew)) (by omega) HS1.out HS2.out ?_; rintro W ⟨q0, q1, q2, q3, q4, q5, q6, r0, r1⟩ hoth hsz htn; have HTN := hid (htn w (Tn.thenNo (((Tn.refl No w).alloc _).alloc _) HT.out) (by omega) (by omega)); clear htn; have hgA : w.heap.size < W.heap.size := (by omega); have hgB : w.heap.size + 1 < W.heap.size := (by omega); refine bodyPost_ret (v := .tuple #[noTk, .int .i64 0, msV c1 (p : Int)]) (by simp [results, Tryz.results30, go_sem, tkV, noTk, msV, q0, q1, q2, q3, q4, q5, q6, r0, r1, hgA, hgB]) rfl ?_
    exact ⟨(HTN.out.alloc _).drew, _, _, _, _, _, _, _, _, _, _, _, _, rfl, rfl, rfl, rfl, rfl, rfl, rfl, rfl, rfl, rfl, rfl⟩
  | ok l en =>
    rw [hr] at hq
    have HQ := hid hq
    clear hq hr
    go_enter Tryz.func30, Tryz.ntmps30
    go_wp2_with (go_at_call 60; refine (HQ.out _).mono ?_; rintro e w1 ⟨ht, x1, en1, c1, pp1, rfl, rfl, rfl, rfl, rfl⟩; simp only [msV]; obtain ⟨⟨k1, f1⟩, ⟨k2, f2⟩, s1, s2, hz⟩ := two_blocks ht; have HS1 := hid (fun i (hi : i < 7) => s1 i hi); have HS2 := hid (fun i (hi : i < 2) => s2 i hi); clear s1 s2; have k10 := k1 0; have k11 := k1 1; have k12 := k1 2; have k13 := k1 3; have k14 := k1 4; have k15 := k1 5; have k16 := k1 6; have k20 := k2 0; have k21 := k2 1; simp at k10 k11 k12 k13 k14 k15 k16 k20 k21; clear k1 k2; have HT := hid ht; clear ht; have hzA := Nat.lt_of_lt_of_le (Nat.lt_add_of_pos_right (by decide : 0 < 2)) hz; have hzB := Nat.lt_of_lt_of_le (Nat.add_lt_add_left (by decide : 1 < 2) _) hz)
    change bodyPost _ _ _ _ _ (((put9 w1 w.heap.size (w.heap.size + 1) _ _ _ _ _ _ _ _ _)).alloc _); refine put9_all (fun W => bodyPost _ _ _ _ _ ((W).alloc _)) (by omega) HS1.out HS2.out ?_; rintro W ⟨q0, q1, q2, q3, q4, q5, q6, r0, r1⟩ hoth hsz htn; have HTN := hid (htn w (Tn.thenNo (((Tn.refl No w).alloc _).alloc _) HT.out) (by omega) (by omega)); clear htn; have hgA : w.heap.size < W.heap.size := (by omega); have hgB : w.heap.size + 1 < W.heap.size := (by omega); refine bodyPost_ret (v := .tuple #[tkV 7 (strOf l) false (.slice none 0 0) 0 0 (a : Int), .int .i64 (en : Int), msV 0 0]) (by simp [results, Tryz.results30, go_sem, tkV, noTk, msV, q0, q1, q2, q3, q4, q5, q6, r0, r1, hgA, hgB]) rfl ?_
    exact ⟨HTN.out.alloc _, _, _, _, _, _, _, _, _, _, _, _, _, rfl, rfl, rfl, rfl, rfl, rfl, rfl, rfl, rfl, NumAt.nil _ _⟩

set_option maxHeartbeats 2000000 in
set_option maxRecDepth 100000 in
theorem char_raw (s : ByteArray) (a : Nat) (w : World) (hs : s.size ≤ 65536) (ha : a + 1 < s.size) :
    Calls Tryz.prog 31 #[.string s, .int .i64 (a : Int)] w (WPost w (charW s a)) := by
  have hq := fun w => quoted_raw s (a + 1) w hs ha
  have hcast : ((a + 1 : Nat) : Int) = (a : Int) + 1 := by omega
  rw [hcast] at hq
  unfold charW
  rw [show a + 2 = a + 1 + 1 from rfl]
  cases hr : qu s (a + 1 + 1) [] with
  | bad c p =>
    have hc : ¬ c = 0 := by rcases qu_bad hr with h | h <;> omega
    rw [hr] at hq
    have HQ := hid hq
    clear hq hr hcast
    go_enter Tryz.func31, Tryz.ntmps31
    go_wp2_with (go_at_call 60; refine (HQ.out _).mono ?_; rintro e w1 ⟨ht, x1, en1, c1, pp1, rfl, rfl, rfl, rfl, rfl⟩; simp only [msV]; obtain ⟨⟨k1, f1⟩, ⟨k2, f2⟩, s1, s2, hz⟩ := two_blocks ht; have HS1 := hid (fun i (hi : i < 7) => s1 i hi); have HS2 := hid (fun i (hi : i < 2) => s2 i hi); clear s1 s2; have k10 := k1 0; have k11 := k1 1; have k12 := k1 2; have k13 := k1 3; have k14 := k1 4; have k15 := k1 5; have k16 := k1 6; have k20 := k2 0; have k21 := k2 1; simp at k10 k11 k12 k13 k14 k15 k16 k20 k21; clear k1 k2; have HT := hid ht; clear ht; have hzA := Nat.lt_of_lt_of_le (Nat.lt_add_of_pos_right (by decide : 0 < 2)) hz; have hzB := Nat.lt_of_lt_of_le (Nat.add_lt_add_left (by decide : 1 < 2) _) hz)
    go_region
    all_goals go_wp2_with fail
    change bodyPost _ _ _ _ _ ((((put9 w1 w.heap.size (w.heap.size + 1) _ _ _ _ _ _ _ _ _)).alloc _).drew); refine put9_all (fun W => bodyPost _ _ _ _ _ (((W).alloc _).drew)) (by omega) HS1.out HS2.out ?_; rintro W ⟨q0, q1, q2, q3, q4, q5, q6, r0, r1⟩ hoth hsz htn; have HTN := hid (htn w (Tn.thenNo (((Tn.refl No w).alloc _).alloc _) HT.out) (by omega) (by omega)); clear htn; have hgA : w.heap.size < W.heap.size := (by omega); have hgB : w.heap.size + 1 < W.heap.size := (by omega); refine bodyPost_ret (v := .tuple #[noTk, .int .i64 0, msV c1 (p : Int)]) (by simp [results, Tryz.results31, go_sem, tkV, noTk, msV, q0, q1, q2, q3, q4, q5, q6, r0, r1, hgA, hgB]) rfl ?_
    exact ⟨(HTN.out.alloc _).drew, _, _, _, _, _, _, _, _, _, _, _, _, rfl, rfl, rfl, rfl, rfl, rfl, rfl, rfl, rfl, rfl, rfl⟩
  | ok l en =>
    rw [hr] at hq
    have HQ := hid hq
    have hsz := str_size' l
    clear hq hr hcast
    dsimp only
    by_cases h1 : l.length = 1
    · rw [if_pos h1]
      obtain ⟨c, rfl⟩ : ∃ c, l = [c] := List.length_eq_one_iff.1 h1
      have hb0 : ∀ h, (((strOf [c])[0]'h).toNat : Int) = (c.toNat : Int) := fun _ => rfl
      have hwr : wrap64 (c.toNat : Int) = (c.toNat : Int) := by have := c.toNat_lt; unfold wrap64; omega
      simp only [List.length_cons, List.length_nil] at hsz
      go_enter Tryz.func31, Tryz.ntmps31
      go_wp2_with (go_at_call 60; refine (HQ.out _).mono ?_; rintro e w1 ⟨ht, x1, en1, c1, pp1, rfl, rfl, rfl, rfl, rfl⟩; simp only [msV]; obtain ⟨⟨k1, f1⟩, ⟨k2, f2⟩, s1, s2, hz⟩ := two_blocks ht; have HS1 := hid (fun i (hi : i < 7) => s1 i hi); have HS2 := hid (fun i (hi : i < 2) => s2 i hi); clear s1 s2; have k10 := k1 0; have k11 := k1 1; have k12 := k1 2; have k13 := k1 3; have k14 := k1 4; have k15 := k1 5; have k16 := k1 6; have k20 := k2 0; have k21 := k2 1; simp at k10 k11 k12 k13 k14 k15 k16 k20 k21; clear k1 k2; have HT := hid ht; clear ht; have hzA := Nat.lt_of_lt_of_le (Nat.lt_add_of_pos_right (by decide : 0 < 2)) hz; have hzB := Nat.lt_of_lt_of_le (Nat.add_lt_add_left (by decide : 1 < 2) _) hz)
      change bodyPost _ _ _ _ _ (((put9 w1 w.heap.size (w.heap.size + 1) _ _ _ _ _ _ _ _ _)).alloc _); refine put9_all (fun W => bodyPost _ _ _ _ _ ((W).alloc _)) (by omega) HS1.out HS2.out ?_; rintro W ⟨q0, q1, q2, q3, q4, q5, q6, r0, r1⟩ hoth hsz htn; have HTN := hid (htn w (Tn.thenNo (((Tn.refl No w).alloc _).alloc _) HT.out) (by omega) (by omega)); clear htn; have hgA : w.heap.size < W.heap.size := (by omega); have hgB : w.heap.size + 1 < W.heap.size := (by omega); refine bodyPost_ret (v := .tuple #[tkV 6 (strOf [c]) false (.slice none 0 0) 0 (c.toNat : Int) (a : Int), .int .i64 (en : Int), msV 0 0]) (by simp [results, Tryz.results31, go_sem, tkV, noTk, msV, q0, q1, q2, q3, q4, q5, q6, r0, r1, hgA, hgB]) rfl ?_
      exact ⟨HTN.out.alloc _, _, _, _, _, _, _, _, _, _, _, _, _, rfl, rfl, rfl, rfl, rfl, rfl, rfl, rfl, rfl, NumAt.nil _ _⟩
    · rw [if_neg h1]
      have hne : ((l.length : Int) != 1) = true := by simp; omega
      have HF := hid (fun w => failed_raw 32 a w)
      go_enter Tryz.func31, Tryz.ntmps31
      go_wp2_with (first
        | (go_at_call 60; refine (HQ.out _).mono ?_; rintro e w1 ⟨ht, x1, en1, c1, pp1, rfl, rfl, rfl, rfl, rfl⟩; simp only [msV]; obtain ⟨⟨k1, f1⟩, ⟨k2, f2⟩, s1, s2, hz⟩ := two_blocks ht; have HS1 := hid (fun i (hi : i < 7) => s1 i hi); have HS2 := hid (fun i (hi : i < 2) => s2 i hi); clear s1 s2; have k10 := k1 0; have k11 := k1 1; have k12 := k1 2; have k13 := k1 3; have k14 := k1 4; have k15 := k1 5; have k16 := k1 6; have k20 := k2 0; have k21 := k2 1; simp at k10 k11 k12 k13 k14 k15 k16 k20 k21; clear k1 k2; have HT := hid ht; clear ht; have hzA := Nat.lt_of_lt_of_le (Nat.lt_add_of_pos_right (by decide : 0 < 2)) hz; have hzB := Nat.lt_of_lt_of_le (Nat.add_lt_add_left (by decide : 1 < 2) _) hz)
        | (go_at_call 37; refine (HF.out _).mono ?_; rintro e w1 ⟨ht2, k1, x1, ng1, sa1, sn1, sc1, b1, n1, p1, en1, c1, pp1, rfl, rfl, rfl, rfl, hsl, rfl, rfl, rfl, rfl, rfl, rfl⟩; cases hsl; simp only [tkV, msV]; have ht := (HT.out.alloc _).thenNo ht2; clear ht2; obtain ⟨⟨k1, f1⟩, ⟨k2, f2⟩, s1, s2, hz⟩ := two_blocks ht; have HS1 := hid (fun i (hi : i < 7) => s1 i hi); have HS2 := hid (fun i (hi : i < 2) => s2 i hi); clear s1 s2; have k10 := k1 0; have k11 := k1 1; have k12 := k1 2; have k13 := k1 3; have k14 := k1 4; have k15 := k1 5; have k16 := k1 6; have k20 := k2 0; have k21 := k2 1; simp at k10 k11 k12 k13 k14 k15 k16 k20 k21; clear k1 k2; have HT := hid ht; clear ht; have hzA := Nat.lt_of_lt_of_le (Nat.lt_add_of_pos_right (by decide : 0 < 2)) hz; have hzB := Nat.lt_of_lt_of_le (Nat.add_lt_add_left (by decide : 1 < 2) _) hz))
      change bodyPost _ _ _ _ _ ((put9 w1 w.heap.size (w.heap.size + 1) _ _ _ _ _ _ _ _ _)); refine put9_all (fun W => bodyPost _ _ _ _ _ (W)) (by omega) HS1.out HS2.out ?_; rintro W ⟨q0, q1, q2, q3, q4, q5, q6, r0, r1⟩ hoth hsz htn; have HTN := hid (htn w (Tn.thenNo (((Tn.refl No w).alloc _).alloc _) HT.out) (by omega) (by omega)); clear htn; have hgA : w.heap.size < W.heap.size := (by omega); have hgB : w.heap.size + 1 < W.heap.size := (by omega); refine bodyPost_ret (v := .tuple #[noTk, .int .i64 0, msV 32 (a : Int)]) (by simp [results, Tryz.results31, go_sem, tkV, noTk, msV, q0, q1, q2, q3, q4, q5, q6, r0, r1, hgA, hgB]) rfl ?_
      exact ⟨HTN.out, _, _, _, _, _, _, _, _, _, _, _, _, rfl, rfl, rfl, rfl, rfl, rfl, rfl, rfl, rfl, rfl, rfl⟩
end Go.Proofs.YtcmhfeeocehlaaaGreatDoor
