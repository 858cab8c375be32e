/-
  The reference's lexer: the word at a place.
-/
import Derived.Test.YtcmhfeeocehlaaaGreatDoorRLex5i
import Derived.Test.YtcmhfeeocehlaaaGreatDoorRLex5r
import Derived.Test.YtcmhfeeocehlaaaGreatDoorRLex6s
import Derived.Test.YtcmhfeeocehlaaaGreatDoorJoins2
import Derived.Test.YtcmhfeeocehlaaaGreatDoorEndB
import Derived.Test.YtcmhfeeocehlaaaGreatDoorTokA
namespace Go.Proofs.YtcmhfeeocehlaaaGreatDoor
set_option linter.unusedSimpArgs false
set_option linter.unusedVariables false
open Go.RowKit Go.PlainAid
attribute [local go_sem ↓] Go.wp_at_zero Go.wp_at_succ

theorem rnumber_raw (rb : ByteArray → Nat) (s : ByteArray) (a : Nat) (w : World) (hs : s.size ≤ 65536) (hn : isNum s a = true) (hpf : ¬ numE s a = whole s a → ¬ 100 < numE s a - a → PFW w (ngT (s.extract a (numE s a))) (rb (s.extract a (numE s a)))) :
    Calls Tryz.prog 42 #[.string s, .int .i64 (a : Int)] w (WPost w (numW (fun x => (rb x : Int)) s a).z) := by
  by_cases h : numE s a = whole s a
  · exact rnumber_int rb s a w hs hn h
  · exact rnumber_real rb s a w hs hn h (hpf h)
theorem PFW.no {w u : World} {x : ByteArray} {v : Nat} (h : PFW w x v) (t : Tn No w u) : PFW u x v := fun y ty => h y (t.then ty)
/-- what stands in what is answered, the word left out where it is refused, its place left out -/
def RSh (w w' : World) (o : Wd) (k : Int) (x : ByteArray) (ng : Bool) (sl : Value) (b n p en c q : Int) : Prop := match o with
  | .bad c' p' => c = c' ∧ q = (p' : Int)
  | .ok t e' => k = t.kind ∧ x = t.text ∧ b = t.bits ∧ n = t.n ∧ p = 0 ∧ en = (e' : Int) ∧ c = 0 ∧ q = 0 ∧ NumAt w' w.heap.size ng sl t.z
def RPost (w : World) (o : Wd) (e : Ending) (w' : World) : Prop := Tn No w w' ∧ ∃ k x ng sa sn sc b n p en c q,
  e = .returned (.tuple #[tkV k x ng (.slice sa sn sc) b n p, .int .i64 en, msV c q]) ∧ RSh w w' o k x ng (.slice sa sn sc) b n p en c q
theorem RPost.of {w : World} {o : Wd} {e : Ending} {w' : World} (h : WPost w o.z e w') : RPost w o e w' := by
  obtain ⟨t, k, x, ng, sa, sn, sc, b, n, p, en, c, q, he, hs⟩ := h
  refine ⟨t, k, x, ng, sa, sn, sc, b, n, p, en, c, q, he, ?_⟩
  cases o with
  | bad c' p' =>
    obtain ⟨_, _, _, _, _, _, _, _, h1, h2⟩ := hs
    exact ⟨h1, h2⟩
  | ok t e' => exact hs
set_option maxHeartbeats 8000000 in
set_option maxRecDepth 100000 in
theorem rword_raw (rb : ByteArray → Nat) (s : ByteArray) (a : Nat) (w : World) (hs : s.size ≤ 65536) (ha : a < s.size) (hr : isL (bt s a) = false → isNum s a = true → ¬ numE s a = whole s a → ¬ 100 < numE s a - a → PFW w (ngT (s.extract a (numE s a))) (rb (s.extract a (numE s a)))) :
    Calls Tryz.prog 18 #[.string s, .int .i64 (a : Int)] w (RPost w (wordW (fun x => (rb x : Int)) s a)) := by
  have hb := get_bt s a ha
  have haI : (a : Int) < (s.size : Int) := by omega
  have HB := hid (fun w => rat_raw s (a + 1) w)
  rw [cast1] at HB
  have HL := hid (fun w => rletter_raw (bt s a) w (bt_nonneg s _) (bt_le s _))
  have HD := hid (fun w => rdigit_raw (bt s a) w (bt_nonneg s _) (bt_le s _))
  have HD2 := hid (fun w => rdigit_raw (bt s (a + 1)) w (bt_nonneg s _) (bt_le s _))
  have HO := hid (fun w => ralone_raw (bt s a) w (bt_nonneg s _) (bt_le s _))
  have HS := hid (fun w => rsymbolic_raw (bt s a) w (bt_nonneg s _) (bt_le s _))
  have HNM := hid (fun w => rname_raw s a w hs (by omega))
  have hNU := fun h1 h2 (w' : World) (t : Tn No w w') => rnumber_raw rb s a w' hs h2 (fun h3 h4 => (hr h1 h2 h3 h4).no t)
  have HFA := hid (fun w => rbad_raw 30 (a : Int) w)
  have hlt2 : bt s (a + 1) = 34 → a + 1 < s.size := fun h => lt_of_bt (by omega)
  unfold wordW isNum
  unfold isNum at hNU
  have hcx : ∃ c d, bt s a = c ∧ bt s (a + 1) = d := ⟨_, _, rfl, rfl⟩
  obtain ⟨c, d, hc, hd⟩ := hcx
  rw [hd] at HB HD2 hNU hlt2 ⊢
  rw [hc] at hb HL HD HO HS hNU ⊢
  have HC0 := hid hc
  have HD0 := hid hd
  clear hd hc hr
  cases hL : isL c with
  | true =>
    rw [if_pos rfl]
    rw [hL] at HL
    clear hNU
    refine Calls.mono (?_ : Calls _ _ _ _ (WPost w (nameW s a).z)) (fun e w' h => RPost.of h)
    go_enter Tryz.func18, Tryz.ntmps18
    go_wp2_with (first
      | (go_at_call 39; refine (HL.out _).mono ?_; rintro e w' ⟨rfl, rfl⟩)
      | (go_at_call 40; refine (HNM.out _).mono ?_; rintro e w1 ⟨ht, k1, x1, ng1, sa1, sn1, sc1, b1, n1, p1, en1, c1, pp1, rfl, hsh⟩; simp only [tkV, msV]; have HSH := hid hsh; clear hsh; obtain ⟨⟨k1, f1⟩, ⟨k2, f2⟩, s1, s2, hz⟩ := two_blocks ht; have HS1 := hid (fun i (hi : i < 7) => s1 i hi); have HS2 := hid (fun i (hi : i < 2) => s2 i hi); clear s1 s2; have k10 := k1 0; have k11 := k1 1; have k12 := k1 2; have k13 := k1 3; have k14 := k1 4; have k15 := k1 5; have k16 := k1 6; have k20 := k2 0; have k21 := k2 1; simp at k10 k11 k12 k13 k14 k15 k16 k20 k21; clear k1 k2; have HT := hid ht; clear ht; have hzA := Nat.lt_of_lt_of_le (Nat.lt_add_of_pos_right (by decide : 0 < 2)) hz; have hzB := Nat.lt_of_lt_of_le (Nat.add_lt_add_left (by decide : 1 < 2) _) hz))
    change bodyPost _ _ _ _ _ (put9 w1 w.heap.size (w.heap.size + 1) _ _ _ _ _ _ _ _ _); refine put9_all (bodyPost _ _ _ _ _) (by omega) HS1.out HS2.out ?_; rintro W ⟨q0, q1, q2, q3, q4, q5, q6, r0, r1⟩ hoth hsz htn; have HTN := hid (htn w (Tn.thenNo (((Tn.refl No w).alloc _).alloc _) HT.out) (by omega) (by omega)); clear htn; refine bodyPost_ret (v := .tuple #[tkV k1 x1 ng1 (.slice sa1 sn1 sc1) b1 n1 p1, .int .i64 en1, msV c1 pp1]) (by simp [results, Tryz.results18, go_sem, tkV, msV, q0, q1, q2, q3, q4, q5, q6, r0, r1]) rfl ?_; exact ⟨HTN.out, _, _, _, _, _, _, _, _, _, _, _, _, rfl, HSH.out.pass hoth hsz (by first | (simp; done) | (simp; omega) | omega) (by first | (simp; done) | (simp; omega) | omega)⟩
  | false =>
    rw [if_neg (by simp)]
    rw [hL] at HL
    by_cases hN : (isD c || (c == 126 && isD d)) = true
    · rw [if_pos hN]
      have HC := hid (hNU hL hN)
      clear hNU
      refine Calls.mono (?_ : Calls _ _ _ _ (WPost w (numW (fun x => (rb x : Int)) s a).z)) (fun e w' h => RPost.of h)
      cases hD : isD c with
      | true =>
        rw [hD] at HD
        clear hN
        go_enter Tryz.func18, Tryz.ntmps18
        go_wp2_with (first
          | (go_at_call 39; refine (HL.out _).mono ?_; rintro e w' ⟨rfl, rfl⟩)
          | (go_at_call 41; refine (HD.out _).mono ?_; rintro e w' ⟨rfl, rfl⟩)
          | (go_at_call 42; refine (HC.out _ (by repeat (first | exact Tn.refl _ _ | apply Tn.drew | apply Tn.drewN | apply Tn.alloc | (refine Tn.then ?_ (by assumption)) | (refine Tn.thenNo ?_ (by assumption))))).mono ?_; rintro e w1 ⟨ht, k1, x1, ng1, sa1, sn1, sc1, b1, n1, p1, en1, c1, pp1, rfl, hsh⟩; simp only [tkV, msV]; have HSH := hid hsh; clear hsh; obtain ⟨⟨k1, f1⟩, ⟨k2, f2⟩, s1, s2, hz⟩ := two_blocks ht; have HS1 := hid (fun i (hi : i < 7) => s1 i hi); have HS2 := hid (fun i (hi : i < 2) => s2 i hi); clear s1 s2; have k10 := k1 0; have k11 := k1 1; have k12 := k1 2; have k13 := k1 3; have k14 := k1 4; have k15 := k1 5; have k16 := k1 6; have k20 := k2 0; have k21 := k2 1; simp at k10 k11 k12 k13 k14 k15 k16 k20 k21; clear k1 k2; have HT := hid ht; clear ht; have hzA := Nat.lt_of_lt_of_le (Nat.lt_add_of_pos_right (by decide : 0 < 2)) hz; have hzB := Nat.lt_of_lt_of_le (Nat.add_lt_add_left (by decide : 1 < 2) _) hz))
        change bodyPost _ _ _ _ _ (put9 w1 w.heap.size (w.heap.size + 1) _ _ _ _ _ _ _ _ _); refine put9_all (bodyPost _ _ _ _ _) (by omega) HS1.out HS2.out ?_; rintro W ⟨q0, q1, q2, q3, q4, q5, q6, r0, r1⟩ hoth hsz htn; have HTN := hid (htn w (Tn.thenNo (((Tn.refl No w).alloc _).alloc _) HT.out) (by omega) (by omega)); clear htn; refine bodyPost_ret (v := .tuple #[tkV k1 x1 ng1 (.slice sa1 sn1 sc1) b1 n1 p1, .int .i64 en1, msV c1 pp1]) (by simp [results, Tryz.results18, go_sem, tkV, msV, q0, q1, q2, q3, q4, q5, q6, r0, r1]) rfl ?_; exact ⟨HTN.out, _, _, _, _, _, _, _, _, _, _, _, _, rfl, HSH.out.pass hoth hsz (by first | (simp; done) | (simp; omega) | omega) (by first | (simp; done) | (simp; omega) | omega)⟩
      | false =>
        rw [hD] at HD hN
        simp only [Bool.false_or, Bool.and_eq_true, beq_iff_eq] at hN
        obtain ⟨rfl, hD2⟩ := hN
        rw [hD2] at HD2
        go_enter Tryz.func18, Tryz.ntmps18
        go_wp2_with (first
          | (go_at_call 39; refine (HL.out _).mono ?_; rintro e w' ⟨rfl, rfl⟩)
          | (go_at_call 41; first | (refine (HD.out _).mono ?_; rintro e w' ⟨rfl, rfl⟩; clear HD) | (refine (HD2.out _).mono ?_; rintro e w' ⟨rfl, rfl⟩))
          | (go_at_call 38; refine (HB.out _).mono ?_; rintro e w' ⟨rfl, rfl⟩)
          | (go_at_call 42; refine (HC.out _ (by repeat (first | exact Tn.refl _ _ | apply Tn.drew | apply Tn.drewN | apply Tn.alloc | (refine Tn.then ?_ (by assumption)) | (refine Tn.thenNo ?_ (by assumption))))).mono ?_; rintro e w1 ⟨ht, k1, x1, ng1, sa1, sn1, sc1, b1, n1, p1, en1, c1, pp1, rfl, hsh⟩; simp only [tkV, msV]; have HSH := hid hsh; clear hsh; obtain ⟨⟨k1, f1⟩, ⟨k2, f2⟩, s1, s2, hz⟩ := two_blocks ht; have HS1 := hid (fun i (hi : i < 7) => s1 i hi); have HS2 := hid (fun i (hi : i < 2) => s2 i hi); clear s1 s2; have k10 := k1 0; have k11 := k1 1; have k12 := k1 2; have k13 := k1 3; have k14 := k1 4; have k15 := k1 5; have k16 := k1 6; have k20 := k2 0; have k21 := k2 1; simp at k10 k11 k12 k13 k14 k15 k16 k20 k21; clear k1 k2; have HT := hid ht; clear ht; have hzA := Nat.lt_of_lt_of_le (Nat.lt_add_of_pos_right (by decide : 0 < 2)) hz; have hzB := Nat.lt_of_lt_of_le (Nat.add_lt_add_left (by decide : 1 < 2) _) hz))
        change bodyPost _ _ _ _ _ (put9 w1 w.heap.size (w.heap.size + 1) _ _ _ _ _ _ _ _ _); refine put9_all (bodyPost _ _ _ _ _) (by omega) HS1.out HS2.out ?_; rintro W ⟨q0, q1, q2, q3, q4, q5, q6, r0, r1⟩ hoth hsz htn; have HTN := hid (htn w (Tn.thenNo (((Tn.refl No w).alloc _).alloc _) HT.out) (by omega) (by omega)); clear htn; refine bodyPost_ret (v := .tuple #[tkV k1 x1 ng1 (.slice sa1 sn1 sc1) b1 n1 p1, .int .i64 en1, msV c1 pp1]) (by simp [results, Tryz.results18, go_sem, tkV, msV, q0, q1, q2, q3, q4, q5, q6, r0, r1]) rfl ?_; exact ⟨HTN.out, _, _, _, _, _, _, _, _, _, _, _, _, rfl, HSH.out.pass hoth hsz (by first | (simp; done) | (simp; omega) | omega) (by first | (simp; done) | (simp; omega) | omega)⟩
    · rw [if_neg hN]
      have hD : isD c = false := by cases h : isD c with | true => rw [h] at hN; simp at hN | false => rfl
      rw [hD] at HD
      have hT : c = 126 → isD d = false := fun h => by cases h' : isD d with | true => rw [h, h'] at hN; simp at hN | false => rfl
      clear hNU hN
      by_cases h34 : c = 34
      · rw [if_pos h34]
        subst h34
        have hq := fun w => rquoted_raw s a w hs ha
        unfold textW
        cases hr : qu s (a + 1) [] with
        | bad cc p =>
          rw [hr] at hq
          have HQ := hid hq
          clear hq hr hT
          go_enter Tryz.func18, Tryz.ntmps18
          go_wp2_with (first
            | (go_at_call 39; refine (HL.out _).mono ?_; rintro e w' ⟨rfl, rfl⟩)
            | (go_at_call 41; refine (HD.out _).mono ?_; rintro e w' ⟨rfl, rfl⟩)
            | (go_at_call 43; refine (HQ.out _).mono ?_; rintro e w1 ⟨ht, x1, en1, c1, pp1, rfl, rfl, rfl, rfl, rfl⟩; simp only [msV]; obtain ⟨⟨k1, f1⟩, ⟨k2, f2⟩, s1, s2, hz⟩ := two_blocks ht; have HS1 := hid (fun i (hi : i < 7) => s1 i hi); have HS2 := hid (fun i (hi : i < 2) => s2 i hi); clear s1 s2; have k10 := k1 0; have k11 := k1 1; have k12 := k1 2; have k13 := k1 3; have k14 := k1 4; have k15 := k1 5; have k16 := k1 6; have k20 := k2 0; have k21 := k2 1; simp at k10 k11 k12 k13 k14 k15 k16 k20 k21; clear k1 k2; have HT := hid ht; clear ht; have hzA := Nat.lt_of_lt_of_le (Nat.lt_add_of_pos_right (by decide : 0 < 2)) hz; have hzB := Nat.lt_of_lt_of_le (Nat.add_lt_add_left (by decide : 1 < 2) _) hz))
          go_region
          all_goals go_wp2_with fail
          change bodyPost _ _ _ _ _ ((((put9 w1 w.heap.size (w.heap.size + 1) _ _ _ _ _ _ _ _ _)).alloc _).drew); refine put9_all (fun W => bodyPost _ _ _ _ _ (((W).alloc _).drew)) (by omega) HS1.out HS2.out ?_; rintro W ⟨q0, q1, q2, q3, q4, q5, q6, r0, r1⟩ hoth hsz htn; have HTN := hid (htn w (Tn.thenNo (((Tn.refl No w).alloc _).alloc _) HT.out) (by omega) (by omega)); clear htn; have hgA : w.heap.size < W.heap.size := (by omega); have hgB : w.heap.size + 1 < W.heap.size := (by omega); refine bodyPost_ret (v := .tuple #[tkV 7 ⟨#[]⟩ false (.slice none 0 0) 0 0 0, .int .i64 0, msV c1 (p : Int)]) (by simp [results, Tryz.results18, go_sem, tkV, noTk, msV, q0, q1, q2, q3, q4, q5, q6, r0, r1, hgA, hgB]) rfl ?_
          exact ⟨(HTN.out.alloc _).drew, _, _, _, _, _, _, _, _, _, _, _, _, rfl, rfl, rfl⟩
        | ok l en =>
          rw [hr] at hq
          have HQ := hid hq
          clear hq hr hT
          go_enter Tryz.func18, Tryz.ntmps18
          go_wp2_with (first
            | (go_at_call 39; refine (HL.out _).mono ?_; rintro e w' ⟨rfl, rfl⟩)
            | (go_at_call 41; refine (HD.out _).mono ?_; rintro e w' ⟨rfl, rfl⟩)
            | (go_at_call 43; refine (HQ.out _).mono ?_; rintro e w1 ⟨ht, x1, en1, c1, pp1, rfl, rfl, rfl, rfl, rfl⟩; simp only [msV]; obtain ⟨⟨k1, f1⟩, ⟨k2, f2⟩, s1, s2, hz⟩ := two_blocks ht; have HS1 := hid (fun i (hi : i < 7) => s1 i hi); have HS2 := hid (fun i (hi : i < 2) => s2 i hi); clear s1 s2; have k10 := k1 0; have k11 := k1 1; have k12 := k1 2; have k13 := k1 3; have k14 := k1 4; have k15 := k1 5; have k16 := k1 6; have k20 := k2 0; have k21 := k2 1; simp at k10 k11 k12 k13 k14 k15 k16 k20 k21; clear k1 k2; have HT := hid ht; clear ht; have hzA := Nat.lt_of_lt_of_le (Nat.lt_add_of_pos_right (by decide : 0 < 2)) hz; have hzB := Nat.lt_of_lt_of_le (Nat.add_lt_add_left (by decide : 1 < 2) _) hz))
          go_region
          all_goals go_wp2_with fail
          change bodyPost _ _ _ _ _ ((((put9 w1 w.heap.size (w.heap.size + 1) _ _ _ _ _ _ _ _ _)).alloc _).drew); refine put9_all (fun W => bodyPost _ _ _ _ _ (((W).alloc _).drew)) (by omega) HS1.out HS2.out ?_; rintro W ⟨q0, q1, q2, q3, q4, q5, q6, r0, r1⟩ hoth hsz htn; have HTN := hid (htn w (Tn.thenNo (((Tn.refl No w).alloc _).alloc _) HT.out) (by omega) (by omega)); clear htn; have hgA : w.heap.size < W.heap.size := (by omega); have hgB : w.heap.size + 1 < W.heap.size := (by omega); refine bodyPost_ret (v := .tuple #[tkV 7 (strOf l) false (.slice none 0 0) 0 0 0, .int .i64 (en : Int), msV 0 0]) (by simp [results, Tryz.results18, go_sem, tkV, noTk, msV, q0, q1, q2, q3, q4, q5, q6, r0, r1, hgA, hgB]) rfl ?_
          exact ⟨(HTN.out.alloc _).drew, _, _, _, _, _, _, _, _, _, _, _, _, rfl, rfl, rfl, rfl, rfl, rfl, rfl, rfl, rfl, NumAt.nil _ _⟩
      · rw [if_neg h34]
        have n34 : (c == 34) = false := by rw [beq_eq_false_iff_ne]; exact h34
        by_cases h35 : c = 35 ∧ d = 34
        · rw [if_pos h35]
          obtain ⟨rfl, rfl⟩ := h35
          have hq := fun w => rquoted_raw s (a + 1) w hs (hlt2 rfl)
          rw [cast1] at hq
          unfold charW
          rw [show a + 2 = a + 1 + 1 from rfl]
          cases hr : qu s (a + 1 + 1) [] with
          | bad cc p =>
            have hcn : ¬ cc = 0 := by rcases qu_bad hr with h | h <;> omega
            have hc1 : (cc == 0) = false := by rw [beq_eq_false_iff_ne]; exact hcn
            have hc2 : (cc != 0) = true := by simpa using hcn
            rw [hr] at hq
            have HQ := hid hq
            clear hq hr hT hcn h34 n34
            go_enter Tryz.func18, Tryz.ntmps18
            go_wp2_with (first
              | (go_at_call 39; refine (HL.out _).mono ?_; rintro e w' ⟨rfl, rfl⟩)
              | (go_at_call 41; refine (HD.out _).mono ?_; rintro e w' ⟨rfl, rfl⟩)
              | (go_at_call 38; refine (HB.out _).mono ?_; rintro e w' ⟨rfl, rfl⟩)
              | (go_at_call 43; refine (HQ.out _).mono ?_; rintro e w1 ⟨ht, x1, en1, c1, pp1, rfl, rfl, rfl, rfl, rfl⟩; simp only [msV]; obtain ⟨⟨k1, f1⟩, ⟨k2, f2⟩, s1, s2, hz⟩ := two_blocks ht; have HS1 := hid (fun i (hi : i < 7) => s1 i hi); have HS2 := hid (fun i (hi : i < 2) => s2 i hi); clear s1 s2; have k10 := k1 0; have k11 := k1 1; have k12 := k1 2; have k13 := k1 3; have k14 := k1 4; have k15 := k1 5; have k16 := k1 6; have k20 := k2 0; have k21 := k2 1; simp at k10 k11 k12 k13 k14 k15 k16 k20 k21; clear k1 k2; have HT := hid ht; clear ht; have hzA := Nat.lt_of_lt_of_le (Nat.lt_add_of_pos_right (by decide : 0 < 2)) hz; have hzB := Nat.lt_of_lt_of_le (Nat.add_lt_add_left (by decide : 1 < 2) _) hz))
            go_region
            all_goals go_wp2_with fail
            change bodyPost _ _ _ _ _ ((((put9 w1 w.heap.size (w.heap.size + 1) _ _ _ _ _ _ _ _ _)).alloc _).drew); refine put9_all (fun W => bodyPost _ _ _ _ _ (((W).alloc _).drew)) (by omega) HS1.out HS2.out ?_; rintro W ⟨q0, q1, q2, q3, q4, q5, q6, r0, r1⟩ hoth hsz htn; have HTN := hid (htn w (Tn.thenNo (((Tn.refl No w).alloc _).alloc _) HT.out) (by omega) (by omega)); clear htn; have hgA : w.heap.size < W.heap.size := (by omega); have hgB : w.heap.size + 1 < W.heap.size := (by omega); refine bodyPost_ret (v := .tuple #[noTk, .int .i64 0, msV c1 (p : Int)]) (by simp [results, Tryz.results18, go_sem, tkV, noTk, msV, q0, q1, q2, q3, q4, q5, q6, r0, r1, hgA, hgB]) rfl ?_
            exact ⟨(HTN.out.alloc _).drew, _, _, _, _, _, _, _, _, _, _, _, _, rfl, rfl, rfl⟩
          | ok l en =>
            rw [hr] at hq
            have HQ := hid hq
            have hsz := str_size' l
            clear hq hr hT h34 n34
            dsimp only
            by_cases h1 : l.length = 1
            · rw [if_pos h1]
              obtain ⟨cb, rfl⟩ : ∃ cb, l = [cb] := List.length_eq_one_iff.1 h1
              have hb0 : ∀ h, (((strOf [cb])[0]'h).toNat : Int) = (cb.toNat : Int) := fun _ => rfl
              have hwr : wrap64 (cb.toNat : Int) = (cb.toNat : Int) := by have := cb.toNat_lt; unfold wrap64; omega
              have hwr2 : IntKind.i64.wrap (cb.toNat : Int) = (cb.toNat : Int) := by have := cb.toNat_lt; rw [IntKind.wrap_i64]; omega
              simp only [List.length_cons, List.length_nil] at hsz
              go_enter Tryz.func18, Tryz.ntmps18
              go_wp2_with (first
                | (go_at_call 39; refine (HL.out _).mono ?_; rintro e w' ⟨rfl, rfl⟩)
                | (go_at_call 41; refine (HD.out _).mono ?_; rintro e w' ⟨rfl, rfl⟩)
                | (go_at_call 38; refine (HB.out _).mono ?_; rintro e w' ⟨rfl, rfl⟩)
                | (go_at_call 43; refine (HQ.out _).mono ?_; rintro e w1 ⟨ht, x1, en1, c1, pp1, rfl, rfl, rfl, rfl, rfl⟩; simp only [msV]; obtain ⟨⟨k1, f1⟩, ⟨k2, f2⟩, s1, s2, hz⟩ := two_blocks ht; have HS1 := hid (fun i (hi : i < 7) => s1 i hi); have HS2 := hid (fun i (hi : i < 2) => s2 i hi); clear s1 s2; have k10 := k1 0; have k11 := k1 1; have k12 := k1 2; have k13 := k1 3; have k14 := k1 4; have k15 := k1 5; have k16 := k1 6; have k20 := k2 0; have k21 := k2 1; simp at k10 k11 k12 k13 k14 k15 k16 k20 k21; clear k1 k2; have HT := hid ht; clear ht; have hzA := Nat.lt_of_lt_of_le (Nat.lt_add_of_pos_right (by decide : 0 < 2)) hz; have hzB := Nat.lt_of_lt_of_le (Nat.add_lt_add_left (by decide : 1 < 2) _) hz))
              go_region
              all_goals go_wp2_with fail
              change bodyPost _ _ _ _ _ ((((put9 w1 w.heap.size (w.heap.size + 1) _ _ _ _ _ _ _ _ _)).alloc _).drew); refine put9_all (fun W => bodyPost _ _ _ _ _ (((W).alloc _).drew)) (by omega) HS1.out HS2.out ?_; rintro W ⟨q0, q1, q2, q3, q4, q5, q6, r0, r1⟩ hoth hsz htn; have HTN := hid (htn w (Tn.thenNo (((Tn.refl No w).alloc _).alloc _) HT.out) (by omega) (by omega)); clear htn; have hgA : w.heap.size < W.heap.size := (by omega); have hgB : w.heap.size + 1 < W.heap.size := (by omega); refine bodyPost_ret (v := .tuple #[tkV 6 (strOf [cb]) false (.slice none 0 0) 0 (cb.toNat : Int) 0, .int .i64 (en : Int), msV 0 0]) (by simp [results, Tryz.results18, go_sem, tkV, noTk, msV, q0, q1, q2, q3, q4, q5, q6, r0, r1, hgA, hgB]) rfl ?_
              exact ⟨(HTN.out.alloc _).drew, _, _, _, _, _, _, _, _, _, _, _, _, rfl, rfl, rfl, rfl, rfl, rfl, rfl, rfl, rfl, NumAt.nil _ _⟩
            · rw [if_neg h1]
              have hne : ((l.length : Int) != 1) = true := by simp; omega
              have HF := hid (fun w => rbad_raw 32 (a : Int) w)
              go_enter Tryz.func18, Tryz.ntmps18
              go_wp2_with (first
                | (go_at_call 39; refine (HL.out _).mono ?_; rintro e w' ⟨rfl, rfl⟩)
                | (go_at_call 41; refine (HD.out _).mono ?_; rintro e w' ⟨rfl, rfl⟩)
                | (go_at_call 38; refine (HB.out _).mono ?_; rintro e w' ⟨rfl, rfl⟩)
                | (go_at_call 43; refine (HQ.out _).mono ?_; rintro e w1 ⟨ht, x1, en1, c1, pp1, rfl, rfl, rfl, rfl, rfl⟩; simp only [msV]; obtain ⟨⟨k1, f1⟩, ⟨k2, f2⟩, s1, s2, hz⟩ := two_blocks ht; have HS1 := hid (fun i (hi : i < 7) => s1 i hi); have HS2 := hid (fun i (hi : i < 2) => s2 i hi); clear s1 s2; have k10 := k1 0; have k11 := k1 1; have k12 := k1 2; have k13 := k1 3; have k14 := k1 4; have k15 := k1 5; have k16 := k1 6; have k20 := k2 0; have k21 := k2 1; simp at k10 k11 k12 k13 k14 k15 k16 k20 k21; clear k1 k2; have HT := hid ht; clear ht; have hzA := Nat.lt_of_lt_of_le (Nat.lt_add_of_pos_right (by decide : 0 < 2)) hz; have hzB := Nat.lt_of_lt_of_le (Nat.add_lt_add_left (by decide : 1 < 2) _) hz)
                | (go_at_call 16; refine (HF.out _).mono ?_; rintro e w1 ⟨rfl, ht2⟩; simp only [msV]; have ht := (HT.out.alloc _).thenNo ht2; clear ht2; obtain ⟨⟨k1, f1⟩, ⟨k2, f2⟩, s1, s2, hz⟩ := two_blocks ht; have HS1 := hid (fun i (hi : i < 7) => s1 i hi); have HS2 := hid (fun i (hi : i < 2) => s2 i hi); clear s1 s2; have k10 := k1 0; have k11 := k1 1; have k12 := k1 2; have k13 := k1 3; have k14 := k1 4; have k15 := k1 5; have k16 := k1 6; have k20 := k2 0; have k21 := k2 1; simp at k10 k11 k12 k13 k14 k15 k16 k20 k21; clear k1 k2; have HT := hid ht; clear ht; have hzA := Nat.lt_of_lt_of_le (Nat.lt_add_of_pos_right (by decide : 0 < 2)) hz; have hzB := Nat.lt_of_lt_of_le (Nat.add_lt_add_left (by decide : 1 < 2) _) hz))
              change bodyPost _ _ _ _ _ ((put9 w1 w.heap.size (w.heap.size + 1) _ _ _ _ _ _ _ _ _)); refine put9_all (fun W => bodyPost _ _ _ _ _ (W)) (by omega) HS1.out HS2.out ?_; rintro W ⟨q0, q1, q2, q3, q4, q5, q6, r0, r1⟩ hoth hsz htn; have HTN := hid (htn w (Tn.thenNo (((Tn.refl No w).alloc _).alloc _) HT.out) (by omega) (by omega)); clear htn; have hgA : w.heap.size < W.heap.size := (by omega); have hgB : w.heap.size + 1 < W.heap.size := (by omega); refine bodyPost_ret (v := .tuple #[noTk, .int .i64 0, msV 32 (a : Int)]) (by simp [results, Tryz.results18, go_sem, tkV, noTk, msV, q0, q1, q2, q3, q4, q5, q6, r0, r1, hgA, hgB]) rfl ?_
              exact ⟨HTN.out, _, _, _, _, _, _, _, _, _, _, _, _, rfl, rfl, rfl⟩
        · rw [if_neg h35]
          by_cases h39 : c = 39
          · rw [if_pos h39]
            subst h39
            clear hT h34 h35 n34
            refine Calls.mono (?_ : Calls _ _ _ _ (WPost w (tyvW s a).z)) (fun e w' h => RPost.of h)
            by_cases hq : d = 39
            · subst hq
              have hl : tyL s a = a + 2 := by unfold tyL; rw [if_pos HD0.out]
              have hcast2 : ((a + 2 : Nat) : Int) = (a : Int) + 1 + 1 := by omega
              have hlt3 := lt_of_bt (s := s) (a := a + 1) (by rw [HD0.out]; decide)
              have HB2 := hid (fun w => rat_raw s (a + 2) w)
              have HL2 := hid (fun w => rletter_raw (bt s (a + 2)) w (bt_nonneg s _) (bt_le s _))
              rw [hcast2] at HB2
              unfold tyvW
              rw [hl]
              cases hv : isL (bt s (a + 2)) with
              | true =>
                rw [if_pos rfl]
                have hge := run_ge isN s (a + 2)
                have hle := run_le isN s (a + 2) (by omega)
                have HN := hid (fun w => rnames_raw s (a + 2) w hs (by omega))
                have HC := hid (fun w => rshort_raw 3 s a (run isN s (a + 2)) w hs (by omega) hle)
                rw [hv] at HL2
                rw [hcast2] at HN
                obtain ⟨rr, hrr⟩ : ∃ r, run isN s (a + 2) = r := ⟨_, rfl⟩
                rw [hrr] at HN HC hge hle ⊢
                clear hv hl hcast2 HFA hrr
                go_enter Tryz.func18, Tryz.ntmps18
                go_wp2_with (first
                  | (go_at_call 39; first | (refine (HL.out _).mono ?_; rintro e w' ⟨rfl, rfl⟩; clear HL) | (refine (HL2.out _).mono ?_; rintro e w' ⟨rfl, rfl⟩))
                  | (go_at_call 41; refine (HD.out _).mono ?_; rintro e w' ⟨rfl, rfl⟩)
                  | (go_at_call 38; first | (refine (HB.out _).mono ?_; rintro e w' ⟨rfl, rfl⟩; clear HB) | (refine (HB2.out _).mono ?_; rintro e w' ⟨rfl, rfl⟩))
                  | (go_at_call 45; refine (HN.out _).mono ?_; rintro e w' ⟨rfl, rfl⟩)
                  | (go_at_call 44; refine (HC.out _).mono ?_; rintro e w1 ⟨ht, k1, x1, ng1, sa1, sn1, sc1, b1, n1, p1, en1, c1, pp1, rfl, hsh⟩; simp only [tkV, msV]; have HSH := hid hsh; clear hsh; obtain ⟨⟨k1, f1⟩, ⟨k2, f2⟩, s1, s2, hz⟩ := two_blocks ht; have HS1 := hid (fun i (hi : i < 7) => s1 i hi); have HS2 := hid (fun i (hi : i < 2) => s2 i hi); clear s1 s2; have k10 := k1 0; have k11 := k1 1; have k12 := k1 2; have k13 := k1 3; have k14 := k1 4; have k15 := k1 5; have k16 := k1 6; have k20 := k2 0; have k21 := k2 1; simp at k10 k11 k12 k13 k14 k15 k16 k20 k21; clear k1 k2; have HT := hid ht; clear ht; have hzA := Nat.lt_of_lt_of_le (Nat.lt_add_of_pos_right (by decide : 0 < 2)) hz; have hzB := Nat.lt_of_lt_of_le (Nat.add_lt_add_left (by decide : 1 < 2) _) hz))
                change bodyPost _ _ _ _ _ (put9 w1 w.heap.size (w.heap.size + 1) _ _ _ _ _ _ _ _ _); refine put9_all (bodyPost _ _ _ _ _) (by omega) HS1.out HS2.out ?_; rintro W ⟨q0, q1, q2, q3, q4, q5, q6, r0, r1⟩ hoth hsz htn; have HTN := hid (htn w (Tn.thenNo (((Tn.refl No w).alloc _).alloc _) HT.out) (by omega) (by omega)); clear htn; refine bodyPost_ret (v := .tuple #[tkV k1 x1 ng1 (.slice sa1 sn1 sc1) b1 n1 p1, .int .i64 en1, msV c1 pp1]) (by simp [results, Tryz.results18, go_sem, tkV, msV, q0, q1, q2, q3, q4, q5, q6, r0, r1]) rfl ?_; exact ⟨HTN.out, _, _, _, _, _, _, _, _, _, _, _, _, rfl, HSH.out.pass hoth hsz (by first | (simp; done) | (simp; omega) | omega) (by first | (simp; done) | (simp; omega) | omega)⟩
              | false =>
                rw [if_neg (by simp)]
                rw [hv] at HL2
                clear hv hl hcast2
                go_enter Tryz.func18, Tryz.ntmps18
                go_wp2_with (first
                  | (go_at_call 39; first | (refine (HL.out _).mono ?_; rintro e w' ⟨rfl, rfl⟩; clear HL) | (refine (HL2.out _).mono ?_; rintro e w' ⟨rfl, rfl⟩))
                  | (go_at_call 41; refine (HD.out _).mono ?_; rintro e w' ⟨rfl, rfl⟩)
                  | (go_at_call 38; first | (refine (HB.out _).mono ?_; rintro e w' ⟨rfl, rfl⟩; clear HB) | (refine (HB2.out _).mono ?_; rintro e w' ⟨rfl, rfl⟩))
                  | (go_at_call 16; refine (HFA.out _).mono ?_; rintro e w1 ⟨rfl, ht⟩; simp only [msV]; obtain ⟨⟨k1, f1⟩, ⟨k2, f2⟩, s1, s2, hz⟩ := two_blocks ht; have HS1 := hid (fun i (hi : i < 7) => s1 i hi); have HS2 := hid (fun i (hi : i < 2) => s2 i hi); clear s1 s2; have k10 := k1 0; have k11 := k1 1; have k12 := k1 2; have k13 := k1 3; have k14 := k1 4; have k15 := k1 5; have k16 := k1 6; have k20 := k2 0; have k21 := k2 1; simp at k10 k11 k12 k13 k14 k15 k16 k20 k21; clear k1 k2; have HT := hid ht; clear ht; have hzA := Nat.lt_of_lt_of_le (Nat.lt_add_of_pos_right (by decide : 0 < 2)) hz; have hzB := Nat.lt_of_lt_of_le (Nat.add_lt_add_left (by decide : 1 < 2) _) hz))
                change bodyPost _ _ _ _ _ (put9 w1 w.heap.size (w.heap.size + 1) _ _ _ _ _ _ _ _ _)
                refine put9_all (bodyPost _ _ _ _ _) (by omega) HS1.out HS2.out ?_; rintro W ⟨q0, q1, q2, q3, q4, q5, q6, r0, r1⟩ hoth hsz htn; have HTN := hid (htn w (Tn.thenNo (((Tn.refl No w).alloc _).alloc _) HT.out) (by omega) (by omega)); clear htn
                refine bodyPost_ret (v := .tuple #[noTk, .int .i64 0, msV 30 (a : Int)]) (by simp [results, Tryz.results18, go_sem, noTk, tkV, msV, q0, q1, q2, q3, q4, q5, q6, r0, r1]) rfl ?_
                exact ⟨HTN.out, _, _, _, _, _, _, _, _, _, _, _, _, rfl, rfl, rfl, rfl, rfl, rfl, rfl, rfl, rfl, rfl, rfl⟩
            · have hl : tyL s a = a + 1 := by unfold tyL; rw [if_neg (by rw [HD0.out]; exact hq)]
              have n39 : (d == 39) = false := by rw [beq_eq_false_iff_ne]; exact hq
              have hLd : isL (bt s (a + 1)) = isL d := by rw [HD0.out]
              have HL2 := hid (fun w => rletter_raw (bt s (a + 1)) w (bt_nonneg s _) (bt_le s _))
              rw [HD0.out] at HL2
              unfold tyvW
              rw [hl, hLd]
              cases hv : isL d with
              | true =>
                rw [if_pos rfl]
                have hlt := lt_of_p (s := s) (a := a + 1) isL_0 (by rw [hLd, hv])
                have hge := run_ge isN s (a + 1)
                have hle := run_le isN s (a + 1) (by omega)
                have HN := hid (fun w => rnames_raw s (a + 1) w hs (by omega))
                have HC := hid (fun w => rshort_raw 3 s a (run isN s (a + 1)) w hs (by omega) hle)
                rw [hv] at HL2
                rw [cast1] at HN
                obtain ⟨rr, hrr⟩ : ∃ r, run isN s (a + 1) = r := ⟨_, rfl⟩
                rw [hrr] at HN HC hge hle ⊢
                clear hv hl HFA hrr hLd hq
                go_enter Tryz.func18, Tryz.ntmps18
                go_wp2_with (first
                  | (go_at_call 39; first | (refine (HL.out _).mono ?_; rintro e w' ⟨rfl, rfl⟩; clear HL) | (refine (HL2.out _).mono ?_; rintro e w' ⟨rfl, rfl⟩))
                  | (go_at_call 41; refine (HD.out _).mono ?_; rintro e w' ⟨rfl, rfl⟩)
                  | (go_at_call 38; refine (HB.out _).mono ?_; rintro e w' ⟨rfl, rfl⟩)
                  | (go_at_call 45; refine (HN.out _).mono ?_; rintro e w' ⟨rfl, rfl⟩)
                  | (go_at_call 44; refine (HC.out _).mono ?_; rintro e w1 ⟨ht, k1, x1, ng1, sa1, sn1, sc1, b1, n1, p1, en1, c1, pp1, rfl, hsh⟩; simp only [tkV, msV]; have HSH := hid hsh; clear hsh; obtain ⟨⟨k1, f1⟩, ⟨k2, f2⟩, s1, s2, hz⟩ := two_blocks ht; have HS1 := hid (fun i (hi : i < 7) => s1 i hi); have HS2 := hid (fun i (hi : i < 2) => s2 i hi); clear s1 s2; have k10 := k1 0; have k11 := k1 1; have k12 := k1 2; have k13 := k1 3; have k14 := k1 4; have k15 := k1 5; have k16 := k1 6; have k20 := k2 0; have k21 := k2 1; simp at k10 k11 k12 k13 k14 k15 k16 k20 k21; clear k1 k2; have HT := hid ht; clear ht; have hzA := Nat.lt_of_lt_of_le (Nat.lt_add_of_pos_right (by decide : 0 < 2)) hz; have hzB := Nat.lt_of_lt_of_le (Nat.add_lt_add_left (by decide : 1 < 2) _) hz))
                change bodyPost _ _ _ _ _ (put9 w1 w.heap.size (w.heap.size + 1) _ _ _ _ _ _ _ _ _); refine put9_all (bodyPost _ _ _ _ _) (by omega) HS1.out HS2.out ?_; rintro W ⟨q0, q1, q2, q3, q4, q5, q6, r0, r1⟩ hoth hsz htn; have HTN := hid (htn w (Tn.thenNo (((Tn.refl No w).alloc _).alloc _) HT.out) (by omega) (by omega)); clear htn; refine bodyPost_ret (v := .tuple #[tkV k1 x1 ng1 (.slice sa1 sn1 sc1) b1 n1 p1, .int .i64 en1, msV c1 pp1]) (by simp [results, Tryz.results18, go_sem, tkV, msV, q0, q1, q2, q3, q4, q5, q6, r0, r1]) rfl ?_; exact ⟨HTN.out, _, _, _, _, _, _, _, _, _, _, _, _, rfl, HSH.out.pass hoth hsz (by first | (simp; done) | (simp; omega) | omega) (by first | (simp; done) | (simp; omega) | omega)⟩
              | false =>
                rw [if_neg (by simp)]
                rw [hv] at HL2
                clear hv hl hLd hq
                go_enter Tryz.func18, Tryz.ntmps18
                go_wp2_with (first
                  | (go_at_call 39; first | (refine (HL.out _).mono ?_; rintro e w' ⟨rfl, rfl⟩; clear HL) | (refine (HL2.out _).mono ?_; rintro e w' ⟨rfl, rfl⟩))
                  | (go_at_call 41; refine (HD.out _).mono ?_; rintro e w' ⟨rfl, rfl⟩)
                  | (go_at_call 38; refine (HB.out _).mono ?_; rintro e w' ⟨rfl, rfl⟩)
                  | (go_at_call 16; refine (HFA.out _).mono ?_; rintro e w1 ⟨rfl, ht⟩; simp only [msV]; obtain ⟨⟨k1, f1⟩, ⟨k2, f2⟩, s1, s2, hz⟩ := two_blocks ht; have HS1 := hid (fun i (hi : i < 7) => s1 i hi); have HS2 := hid (fun i (hi : i < 2) => s2 i hi); clear s1 s2; have k10 := k1 0; have k11 := k1 1; have k12 := k1 2; have k13 := k1 3; have k14 := k1 4; have k15 := k1 5; have k16 := k1 6; have k20 := k2 0; have k21 := k2 1; simp at k10 k11 k12 k13 k14 k15 k16 k20 k21; clear k1 k2; have HT := hid ht; clear ht; have hzA := Nat.lt_of_lt_of_le (Nat.lt_add_of_pos_right (by decide : 0 < 2)) hz; have hzB := Nat.lt_of_lt_of_le (Nat.add_lt_add_left (by decide : 1 < 2) _) hz))
                change bodyPost _ _ _ _ _ (put9 w1 w.heap.size (w.heap.size + 1) _ _ _ _ _ _ _ _ _)
                refine put9_all (bodyPost _ _ _ _ _) (by omega) HS1.out HS2.out ?_; rintro W ⟨q0, q1, q2, q3, q4, q5, q6, r0, r1⟩ hoth hsz htn; have HTN := hid (htn w (Tn.thenNo (((Tn.refl No w).alloc _).alloc _) HT.out) (by omega) (by omega)); clear htn
                refine bodyPost_ret (v := .tuple #[noTk, .int .i64 0, msV 30 (a : Int)]) (by simp [results, Tryz.results18, go_sem, noTk, tkV, msV, q0, q1, q2, q3, q4, q5, q6, r0, r1]) rfl ?_
                exact ⟨HTN.out, _, _, _, _, _, _, _, _, _, _, _, _, rfl, rfl, rfl, rfl, rfl, rfl, rfl, rfl, rfl, rfl, rfl⟩
          · rw [if_neg h39]
            have n39 : (c == 39) = false := by rw [beq_eq_false_iff_ne]; exact h39
            have h35f : c = 35 → (d == 34) = false := fun e => by rw [beq_eq_false_iff_ne]; exact fun e' => h35 ⟨e, e'⟩
            cases hO : isO c with
            | true =>
              rw [if_pos rfl]
              rw [hO] at HO
              have n1 : (c == 126) = false := by rw [beq_eq_false_iff_ne]; intro e; rw [e] at hO; exact absurd hO (by decide)
              have n2 : (c == 35) = false := by rw [beq_eq_false_iff_ne]; intro e; rw [e] at hO; exact absurd hO (by decide)
              have ha1 : (a : Int) + 1 ≤ (s.size : Int) := by omega
              clear hT h35 hO hL hD h34 h39 h35f
              go_enter Tryz.func18, Tryz.ntmps18
              go_wp2_with (first
                | (go_at_call 39; refine (HL.out _).mono ?_; rintro e w' ⟨rfl, rfl⟩)
                | (go_at_call 41; refine (HD.out _).mono ?_; rintro e w' ⟨rfl, rfl⟩)
                | (go_at_call 46; refine (HO.out _).mono ?_; rintro e w' ⟨rfl, rfl⟩))
              refine bodyPost_ret (v := .tuple #[tkV 8 (s.extract a (a + 1)) false (.slice none 0 0) 0 0 0, .int .i64 ((a : Int) + 1), msV 0 0]) (by simp [results, Tryz.results18, go_sem, tkV, msV]) rfl ?_
              exact ⟨(by repeat (first | exact Tn.refl _ _ | apply Tn.drew | apply Tn.drewN | apply Tn.alloc | (refine Tn.then ?_ (by assumption)) | (refine Tn.thenNo ?_ (by assumption)))), _, _, _, _, _, _, _, _, _, _, _, _, rfl, rfl, rfl, rfl, rfl, rfl, by simp, rfl, rfl, NumAt.nil _ _⟩
            | false =>
              rw [if_neg (by simp)]
              rw [hO] at HO
              cases hS : isS c with
              | true =>
                rw [if_pos rfl]
                rw [hS] at HS
                exact (rword_sym s a w hs ha (by rw [HC0.out]; exact hL) (by rw [HC0.out]; exact hD) (fun e => by rw [HD0.out]; exact hT (by rw [← HC0.out]; exact e)) (by rw [HC0.out]; exact h34) (by rw [HC0.out, HD0.out]; exact h35) (by rw [HC0.out]; exact h39) (by rw [HC0.out]; exact hO) (by rw [HC0.out]; exact hS)).mono (fun e w' h => RPost.of h)
              | false =>
                rw [if_neg (by simp)]
                rw [hS] at HS
                have n1 : (c == 126) = false := by rw [beq_eq_false_iff_ne]; intro e; rw [e] at hS; exact absurd hS (by decide)
                have n2 : (c == 35) = false := by rw [beq_eq_false_iff_ne]; intro e; rw [e] at hS; exact absurd hS (by decide)
                clear hT h35 hO hL hD hS h34 h39 h35f
                go_enter Tryz.func18, Tryz.ntmps18
                go_wp2_with (first
                  | (go_at_call 39; refine (HL.out _).mono ?_; rintro e w' ⟨rfl, rfl⟩)
                  | (go_at_call 41; refine (HD.out _).mono ?_; rintro e w' ⟨rfl, rfl⟩)
                  | (go_at_call 46; refine (HO.out _).mono ?_; rintro e w' ⟨rfl, rfl⟩)
                  | (go_at_call 47; refine (HS.out _).mono ?_; rintro e w' ⟨rfl, rfl⟩)
                  | (go_at_call 16; refine (HFA.out _).mono ?_; rintro e w1 ⟨rfl, ht⟩; simp only [msV]; obtain ⟨⟨k1, f1⟩, ⟨k2, f2⟩, s1, s2, hz⟩ := two_blocks ht; have HS1 := hid (fun i (hi : i < 7) => s1 i hi); have HS2 := hid (fun i (hi : i < 2) => s2 i hi); clear s1 s2; have k10 := k1 0; have k11 := k1 1; have k12 := k1 2; have k13 := k1 3; have k14 := k1 4; have k15 := k1 5; have k16 := k1 6; have k20 := k2 0; have k21 := k2 1; simp at k10 k11 k12 k13 k14 k15 k16 k20 k21; clear k1 k2; have HT := hid ht; clear ht; have hzA := Nat.lt_of_lt_of_le (Nat.lt_add_of_pos_right (by decide : 0 < 2)) hz; have hzB := Nat.lt_of_lt_of_le (Nat.add_lt_add_left (by decide : 1 < 2) _) hz))
                change bodyPost _ _ _ _ _ (put9 w1 w.heap.size (w.heap.size + 1) _ _ _ _ _ _ _ _ _)
                refine put9_all (bodyPost _ _ _ _ _) (by omega) HS1.out HS2.out ?_; rintro W ⟨q0, q1, q2, q3, q4, q5, q6, r0, r1⟩ hoth hsz htn; have HTN := hid (htn w (Tn.thenNo (((Tn.refl No w).alloc _).alloc _) HT.out) (by omega) (by omega)); clear htn
                refine bodyPost_ret (v := .tuple #[noTk, .int .i64 0, msV 30 (a : Int)]) (by simp [results, Tryz.results18, go_sem, noTk, tkV, msV, q0, q1, q2, q3, q4, q5, q6, r0, r1]) rfl ?_
                exact ⟨HTN.out, _, _, _, _, _, _, _, _, _, _, _, _, rfl, rfl, rfl⟩
end Go.Proofs.YtcmhfeeocehlaaaGreatDoor
namespace Go.Proofs.YtcmhfeeocehlaaaGreatDoor
set_option linter.unusedSimpArgs false
set_option linter.unusedVariables false
open Go.RowKit Go.PlainAid
attribute [local go_sem ↓] Go.wp_at_zero Go.wp_at_succ

theorem rtok_info : (Tryz.prog.info? 39).map (fun i => (i.zero, i.size, i.bytes)) = some (some (.agg #[.int .i64 0, .string ⟨#[]⟩, .bool false, .slice none 0 0, .int .u64 0, .int .i64 0, .int .i64 0]), 7, 80) := by kernel_rfl

/-- one more word -/
theorem rtok_append {w : World} {B : Nat} {v : Value} {ts : List Tk} (h : TL w B v ts) (t : Tk) (ng : Bool) (sa : Option Addr) (sn sc B' : Nat) (hBB : B ≤ B') (hN : NumAt w B' ng (.slice sa sn sc) t.z) (hoff : ∀ g, v.ownBlock = some g → Off sa sn g) (hl : ts.length ≤ 65536) :
    ∃ va wa, (Builtin.append_ #[29, 29] 29 #[v, .slice (some ⟨w.heap.size, 0, none⟩) 1 1]).run Tryz.prog (w.alloc (.cells #[.int .i64 t.kind, .string t.text, .bool ng, .slice sa sn sc, .int .u64 t.bits, .int .i64 t.n, .int .i64 (t.pl : Int)] 39)) = .ok va wa ∧ TL wa B va (ts ++ [t]) ∧
      (∀ C, C ≤ w.heap.size → (∀ g, v.ownBlock = some g → C ≤ g) → (∀ g, va.ownBlock = some g → C ≤ g)) ∧ (∀ a, Tn No a w → (∀ g, v.ownBlock = some g → a.heap.size ≤ g) → Tn No a wa) := by
  obtain ⟨i, hi, hz0, hz1, hz2⟩ := info_parts rtok_info
  obtain ⟨W, hW⟩ : ∃ W, w.alloc (.cells #[.int .i64 t.kind, .string t.text, .bool ng, .slice sa sn sc, .int .u64 t.bits, .int .i64 t.n, .int .i64 (t.pl : Int)] 39) = W := ⟨_, rfl⟩
  have tW : Tn No w W := by rw [← hW]; exact (Tn.refl No w).alloc _
  have hzW : W.heap.size = w.heap.size + 1 := by rw [← hW]; simp
  have hcW : ∀ j, W.cell? ⟨w.heap.size, j, none⟩ = (#[.int .i64 t.kind, .string t.text, .bool ng, .slice sa sn sc, .int .u64 t.bits, .int .i64 t.n, .int .i64 (t.pl : Int)] : Array Value)[j]? := fun j => by
    rw [← hW, World.cell?_alloc_at _ _ _ _ (by simp)]
  rw [hW]
  have hsrc : Src Tryz.prog 7 29 (.slice (some ⟨w.heap.size, 0, none⟩) 1 1) 1 [.int .i64 t.kind, .string t.text, .bool ng, .slice sa sn sc, .int .u64 t.bits, .int .i64 t.n, .int .i64 (t.pl : Int)] W :=
    Src.ofSlice _ Tryz.underlying29 _ 1 1 _ rfl (fun j u hu => by rw [addr_add, hcW]; simpa using hu) (fun u hu => by simp at hu; rcases hu with rfl | rfl | rfl | rfl | rfl | rfl | rfl <;> rfl)
  obtain ⟨va, wa, hr, hrw, hold, hnew, hgr, hown⟩ := rw_append 29 39 i _ 7 80 Tryz.underlying29 hi hz0 hz1 hz2 rfl (h.no tW).rw hsrc (by unfold maxLen; omega) (by omega) (by omega)
  have hobl : ∀ g, va.ownBlock = some g → v.ownBlock = some g ∨ g = W.heap.size := fun g hg => by
    rcases hown with e | e
    · left; rw [← e]; exact hg
    · right; rw [e] at hg; cases hg; rfl
  refine ⟨va, wa, hr, ⟨by rw [List.length_append]; exact hrw, fun j x hx => ?_⟩, fun C hC hv g hg => ?_, fun a ta hv => (ta.then tW).grown hgr (fun i hi hlt => by have := hv i hi; omega)⟩
  · have fin : ∀ ng sa sn sc, NumAt w B ng (.slice sa sn sc) x.z → (∀ g, v.ownBlock = some g → Off sa sn g) → NumAt wa B ng (.slice sa sn sc) x.z ∧ ∀ g, va.ownBlock = some g → Off sa sn g := fun ng sa sn sc h1 h2 => by
      refine ⟨(h1.no tW).gb hgr h2, fun g hg => ?_⟩
      rcases hobl g hg with e | e
      · exact h2 g e
      · exact h1.offNew (by omega)
    by_cases hj : j < ts.length
    · rw [List.getElem?_append_left hj] at hx
      obtain ⟨ng, sa, sn, sc, a0, a1, a2, a3, a4, a5, a6, hN', ho⟩ := (h.no tW).tk j x hx
      obtain ⟨ng', sa', sn', sc', b0, b1, b2, b3, b4, b5, b6, hN'', ho'⟩ := h.tk j x hx
      have hkw : ∀ g, v.ownBlock = some g → W.heap[g]? = w.heap[g]? := fun g hg => tW.block g (h.rw.lt g hg) (fun e => e)
      have s2 := ((vc_kept hkw _).trans b2).symm.trans a2
      have s3 := ((vc_kept hkw _).trans b3).symm.trans a3
      simp only [Option.some.injEq, Value.bool.injEq, Value.slice.injEq] at s2 s3
      obtain ⟨rfl, rfl, rfl⟩ := s3
      subst s2
      obtain ⟨f1, f2⟩ := fin _ _ _ _ hN'' ho'
      exact ⟨_, _, _, _, by rw [hold _ (by omega)]; exact a0, by rw [hold _ (by omega)]; exact a1, by rw [hold _ (by omega)]; exact a2, by rw [hold _ (by omega)]; exact a3, by rw [hold _ (by omega)]; exact a4, by rw [hold _ (by omega)]; exact a5, by rw [hold _ (by omega)]; exact a6, f1, f2⟩
    · have hj2 : j = ts.length := by
        have := (List.getElem?_eq_some_iff.1 hx).1
        simp at this
        omega
      subst hj2
      have : x = t := by simpa using hx.symm
      subst this
      obtain ⟨f1, f2⟩ := fin ng sa sn sc (hN.mono hBB) hoff
      refine ⟨ng, sa, sn, sc, ?_, ?_, ?_, ?_, ?_, ?_, ?_, f1, f2⟩
      · rw [show 7 * ts.length = ts.length * 7 + 0 by omega, hnew 0 (by simp)]; rfl
      · rw [show 7 * ts.length + 1 = ts.length * 7 + 1 by omega, hnew 1 (by simp)]; rfl
      · rw [show 7 * ts.length + 2 = ts.length * 7 + 2 by omega, hnew 2 (by simp)]; rfl
      · rw [show 7 * ts.length + 3 = ts.length * 7 + 3 by omega, hnew 3 (by simp)]; rfl
      · rw [show 7 * ts.length + 4 = ts.length * 7 + 4 by omega, hnew 4 (by simp)]; rfl
      · rw [show 7 * ts.length + 5 = ts.length * 7 + 5 by omega, hnew 5 (by simp)]; rfl
      · rw [show 7 * ts.length + 6 = ts.length * 7 + 6 by omega, hnew 6 (by simp)]; rfl
  · rcases hobl g hg with e | e
    · exact hv g e
    · omega

/-- the reals of a text have bits -/
def PFs (rb : ByteArray → Nat) (s : ByteArray) (w : World) : Prop := ∀ a, a < s.size → isL (bt s a) = false → isNum s a = true → ¬ numE s a = whole s a → ¬ 100 < numE s a - a → PFW w (ngT (s.extract a (numE s a))) (rb (s.extract a (numE s a)))
theorem PFs.no {rb : ByteArray → Nat} {s : ByteArray} {w u : World} (h : PFs rb s w) (t : Tn No w u) : PFs rb s u := fun a h1 h2 h3 h4 h5 => (h a h1 h2 h3 h4 h5).no t

set_option maxHeartbeats 4000000 in
set_option maxRecDepth 100000 in
theorem rtokens_raw (rb : ByteArray → Nat) (s : ByteArray) (w : World) (hm : s.size ≤ 9223372036854775807) (hrb : PFs rb s w) :
    Calls Tryz.prog 9 #[.string s] w (TPost w (lexW (fun x => (rb x : Int)) s)) := by
  by_cases hlong : 65536 < s.size
  · rw [lexW_long _ s hlong]
    have hlI : (65536 : Int) < (s.size : Int) := by omega
    have HBD := hid (fun w => rbad_raw 2 0 w)
    clear hrb hlong
    go_enter Tryz.func9, Tryz.ntmps9
    go_wp2_with (go_at_call 16; refine (HBD.out _).mono ?_; rintro e w1 ⟨rfl, ht⟩; simp only [msV]; obtain ⟨k2, f2, hz⟩ := one_block ht; have k20 := k2 0; have k21 := k2 1; simp at k20 k21; have HT := hid ht; clear k2 ht)
    refine bodyPost_ret (v := .tuple #[.slice none 0 0, msV 2 0]) (by obtain ⟨q0, q1⟩ := set2_cells (u0 := .int .i64 2) (u1 := .int .i64 0) k20 k21; simp [results, Tryz.results9, go_sem, msV, q0, q1]) rfl ?_
    exact ⟨set2_tn HT.out, rfl⟩
  have hs : s.size ≤ 65536 := by omega
  have hlD : decide ((65536 : Int) < (s.size : Int)) = false := by rw [decide_eq_false_iff_not]; omega
  rw [lexW_al _ s hlong]
  obtain ⟨R, hR⟩ : ∃ R, al (fun x => (rb x : Int)) s 0 [] = R := ⟨_, rfl⟩
  rw [hR]
  have HR := hid hR
  have HRB := hid hrb
  clear hR hrb hlong
  go_enter Tryz.func9, Tryz.ntmps9
  go_wp2_with fail
  go_loopw [4, 5] (fun v i wr => ∃ (k : Nat) (ts : List Tk), k ≤ s.size ∧ i = .int .i64 (k : Int) ∧ TL wr (w.heap.size + 1) v ts ∧ ts.length ≤ k ∧ (∀ g, v.ownBlock = some g → w.heap.size + 1 ≤ g) ∧ Tn No (w.alloc (.cells #[.int .i64 0, .int .i64 0] 26)) wr ∧ Hid (al (fun x => (rb x : Int)) s k ts = R)) (fun _ i _ => s.size + 1 - (intOf i).toNat)
  case atStart => exact ⟨0, [], by omega, rfl, TL.nil _ _, by simp, fun g hg => (by cases hg), Tn.refl _ _, HR⟩
  case round =>
    obtain ⟨k, ts, hk, rfl, htl, hlk, hob, ht, HP⟩ := hrel
    obtain ⟨av, cv, rfl⟩ := htl.form
    clear HR hlD
    have hbl := fun w => rblank_raw s k w hs hk
    cases hb : bl s k with
    | none =>
      rw [hb] at hbl
      have HB := hid hbl
      have hq := al_none (rb := fun x => (rb x : Int)) (ts := ts) hk hb
      have hR : R = .bad 31 s.size := by rw [← HP.out, hq]
      subst hR
      have HT := hid ht
      clear HP hq hb hbl ht hob htl
      go_wp2_with (go_at_call 17; refine (HB.out _).mono ?_; rintro e w3 ⟨t3, kk, rfl⟩; simp only [msV]; have ht := HT.out.thenNo t3; obtain ⟨k2, f2, hz⟩ := one_block ht; have k20 := k2 0; have k21 := k2 1; simp at k20 k21; have HT3 := hid ht; have hzA := Nat.lt_of_lt_of_le (Nat.lt_succ_self _) hz; clear k2 ht)
      go_region
      all_goals go_wp2_with fail
      refine bodyPost_ret (v := .tuple #[.slice none 0 0, msV 31 (s.size : Int)]) (by obtain ⟨q0, q1⟩ := set2_cells (u0 := .int .i64 31) (u1 := .int .i64 (s.size : Int)) k20 k21; simp [results, Tryz.results9, go_sem, msV, q0, q1, hzA]) rfl ?_
      exact ⟨((set2_tn HT3.out).alloc _).drew, rfl⟩
    | some a =>
      rw [hb] at hbl
      have HB := hid hbl
      have hab := bl_bound hk hb
      by_cases hae : a = s.size
      · subst hae
        have hq := al_end (rb := fun x => (rb x : Int)) (ts := ts) hk hb
        have hR : R = .ok ts := by rw [← HP.out, hq]
        subst hR
        have HT := hid ht
        have HTL := hid htl
        have HOB := hid hob
        clear HP hq hb hbl ht hob htl
        go_wp2_with (go_at_call 17; refine (HB.out _).mono ?_; rintro e w3 ⟨t3, rfl⟩; simp only [msV]; have ht := HT.out.thenNo t3; obtain ⟨k2, f2, hz⟩ := one_block ht; have k20 := k2 0; have k21 := k2 1; simp at k20 k21; have HT3 := hid ht; have hzA := Nat.lt_of_lt_of_le (Nat.lt_succ_self _) hz; have HTL3 := hid (HTL.out.no t3); clear k2 ht)
        refine bodyPost_ret (v := .tuple #[.slice av ts.length cv, msV 0 0]) (by obtain ⟨q0, q1⟩ := set2_cells (u0 := .int .i64 0) (u1 := .int .i64 0) k20 k21; simp [results, Tryz.results9, go_sem, msV, q0, q1, hzA]) rfl ?_
        refine ⟨(set2_tn HT3.out).alloc _, av, cv, rfl, ?_, fun g hg => by have := HOB.out g hg; omega⟩
        refine TL.no ?_ ((Tn.refl No _).alloc _)
        refine (HTL3.out.blocks (by simp) HOB.out (fun b hb _ => ?_)).mono (by omega)
        rw [Below.heap_setCell _ _ _ _ (by show b ≠ w.heap.size; omega), Below.heap_setCell _ _ _ _ (by show b ≠ w.heap.size; omega)]
      · have hlt : a < s.size := by omega
        have hltI : (a : Int) < (s.size : Int) := by omega
        have hwd := fun (w' : World) (t : Tn No w w') => rword_raw rb s a w' hs hlt (HRB.out.no t a hlt)
        cases hw : wordW (fun x => (rb x : Int)) s a with
        | bad c p =>
          rw [hw] at hwd
          have HW := hid hwd
          have hc := word_code hw
          have hcb : (c != 0) = true := by simpa using hc
          have hq := al_bad (ts := ts) hk hb hae hw
          have hR : R = .bad c p := by rw [← HP.out, hq]
          subst hR
          have HT := hid ht
          clear HP hq hb hbl ht hob htl hwd hw hae
          go_wp2_with (first
            | (go_at_call 17; refine (HB.out _).mono ?_; rintro e w3 ⟨t3, rfl⟩; simp only [msV]; have ht3 := HT.out.thenNo t3; have HT3 := hid ht3; clear t3 ht3)
            | (go_at_call 18; refine (HW.out _ ((Tn.thenNo ((Tn.refl No w).alloc _) HT3.out).alloc _)).mono ?_; rintro e w5 ⟨t5, k1, x1, ng1, sa1, sn1, sc1, b1, n1, p1, en1, c1, pp1, rfl, rfl, rfl⟩; simp only [tkV, msV]; obtain ⟨k7, f7, z7⟩ := one_block t5; have k70 := k7 0; have k71 := k7 1; simp at k70 k71; have ht5 := (HT3.out.alloc _).thenNo t5; obtain ⟨k2, f2, hz⟩ := one_block ht5; have k20 := k2 0; have k21 := k2 1; simp at k20 k21; have HT5 := hid ht5; have hzA := Nat.lt_of_lt_of_le (Nat.lt_succ_self _) hz; have hzB := Nat.lt_of_lt_of_le (Nat.lt_succ_self _) z7; obtain ⟨_, _, hz3⟩ := one_block HT3.out; have hn1 : ¬ w3.heap.size = w.heap.size := (by omega); have hn2 : ¬ w.heap.size = w3.heap.size := (by omega); clear k2 k7 ht5))
          go_region
          all_goals go_wp2_with fail
          have k20' : ((w5.setCell ⟨w3.heap.size, 0, none⟩ (.int .i64 c1)).setCell ⟨w3.heap.size, 1, none⟩ (.int .i64 (p : Int))).cell? ⟨w.heap.size, 0, none⟩ = some (.int .i64 0) := by rw [cell_set_ne (by omega), cell_set_ne (by omega)]; exact k20
          have k21' : ((w5.setCell ⟨w3.heap.size, 0, none⟩ (.int .i64 c1)).setCell ⟨w3.heap.size, 1, none⟩ (.int .i64 (p : Int))).cell? ⟨w.heap.size, 1, none⟩ = some (.int .i64 0) := by rw [cell_set_ne (by omega), cell_set_ne (by omega)]; exact k21
          have ht6 := (HT5.out.set ⟨w3.heap.size, 0, none⟩ (.int .i64 c1) (by intro h; simp at h; omega)).set ⟨w3.heap.size, 1, none⟩ (.int .i64 (p : Int)) (by intro h; simp at h; omega)
          refine bodyPost_ret (v := .tuple #[.slice none 0 0, msV c1 (p : Int)]) (by obtain ⟨q0, q1⟩ := set2_cells (u0 := .int .i64 c1) (u1 := .int .i64 (p : Int)) k20' k21'; simp [results, Tryz.results9, go_sem, msV, q0, q1, hzA]) rfl ?_
          exact ⟨((set2_tn ht6).alloc _).drew, rfl⟩
        | ok t e' =>
          rw [hw] at hwd
          have HW := hid hwd
          have hwg := word_gt hlt hw
          have hwp := word_pl hw
          have hpl : t.pl = a := hwp
          have HQ := hid ((al_ok (ts := ts) hk hb hae hw).symm.trans HP.out)
          have HT := hid ht
          have HTL := hid htl
          have HOB := hid hob
          clear HP hb hbl ht hob htl hwd hw hae hwp
          subst hpl
          go_wp2_with (first
            | (go_at_call 17; refine (HB.out _).mono ?_; rintro e w3 ⟨t3, rfl⟩; simp only [msV]; have ht3 := HT.out.thenNo t3; have HT3 := hid ht3; have HTL3 := hid (HTL.out.no t3); clear t3 ht3)
            | (go_at_call 18; refine (HW.out _ ((Tn.thenNo ((Tn.refl No w).alloc _) HT3.out).alloc _)).mono ?_; rintro e w5 ⟨t5, k1, x1, ng1, sa1, sn1, sc1, b1, n1, p1, en1, c1, pp1, rfl, rfl, rfl, rfl, rfl, rfl, rfl, rfl, rfl, hN⟩; simp only [tkV, msV]; obtain ⟨k7, f7, z7⟩ := one_block t5; have k70 := k7 0; have k71 := k7 1; simp at k70 k71; have hzB := Nat.lt_of_lt_of_le (Nat.lt_succ_self _) z7; obtain ⟨_, _, hz3⟩ := one_block HT3.out; have tu : Tn No w3 (((w5.setCell ⟨w3.heap.size, 0, none⟩ (.int .i64 0)).setCell ⟨w3.heap.size, 1, none⟩ (.int .i64 0)).alloc (.cells #[.int .i64 t.kind, .string t.text, .bool ng1, .slice sa1 sn1 sc1, .int .u64 t.bits, .int .i64 t.n, .int .i64 (t.pl : Int)] 39)) := ((Tn.set (Tn.set (Tn.thenNo ((Tn.refl No w3).alloc _) t5) _ _ (by intro h; simp at h)) _ _ (by intro h; simp at h)).alloc _); have hNu := (hN.blocks (w' := (w5.setCell ⟨w3.heap.size, 0, none⟩ (.int .i64 0)).setCell ⟨w3.heap.size, 1, none⟩ (.int .i64 0)) (by simp) (fun b hb _ => by rw [Below.heap_setCell _ _ _ _ (by have : w3.heap.size + 1 ≤ b := (by simpa using hb); show b ≠ w3.heap.size; omega), Below.heap_setCell _ _ _ _ (by have : w3.heap.size + 1 ≤ b := (by simpa using hb); show b ≠ w3.heap.size; omega)])).no ((Tn.refl No _).alloc (.cells #[.int .i64 t.kind, .string t.text, .bool ng1, .slice sa1 sn1 sc1, .int .u64 t.bits, .int .i64 t.n, .int .i64 (t.pl : Int)] 39)); obtain ⟨va, wa, hr, htl', hown', htn'⟩ := rtok_append (HTL3.out.no tu) t ng1 sa1 sn1 sc1 _ (by simp; omega) hNu (fun g hg => hNu.off (by have := HTL3.out.rw.lt g hg; simp; omega)) (by omega); have hsz : (((w5.setCell ⟨w3.heap.size, 0, none⟩ (.int .i64 0)).setCell ⟨w3.heap.size, 1, none⟩ (.int .i64 0)).alloc (.cells #[.int .i64 t.kind, .string t.text, .bool ng1, .slice sa1 sn1 sc1, .int .u64 t.bits, .int .i64 t.n, .int .i64 (t.pl : Int)] 39)).heap.size = w5.heap.size + 1 := (by simp); rw [hsz] at hr; have HRUN := hid hr; have HREL := hid (And.intro htl' (And.intro (hown' (w.heap.size + 1) (by have := tu.size; omega) HOB.out) (htn' _ (HT3.out.thenNo tu) (by simpa using HOB.out)))); clear k7 hN t5 hr htl' hown' htn' hNu tu)
            | (at_builtin; refine wpList_app _ rfl _ _ _ _ rfl _ _ rfl rfl va wa HRUN.out ?_))
          refine ⟨⟨e', ts ++ [t], hwg.2, rfl, HREL.out.1, by simp; omega, HREL.out.2.1, HREL.out.2.2, HQ⟩, ?_⟩
          simp [intOf]; omega
end Go.Proofs.YtcmhfeeocehlaaaGreatDoor
namespace Go.Proofs.YtcmhfeeocehlaaaGreatDoor
set_option linter.unusedSimpArgs false
set_option linter.unusedVariables false
open Go.RowKit Go.PlainAid
attribute [local go_sem ↓] Go.wp_at_zero Go.wp_at_succ
attribute [local go_sem] fbits_run

open Classical in
/-- what ParseFloat answers of a text -/
noncomputable def pvOf (T : Tabs) (hT : T.Ok) (x : ByteArray) : Nat := if h : Wf x then (parse_ex T hT x h).choose else 0
theorem pv_of (T : Tabs) (hT : T.Ok) (x : ByteArray) (hx : Wf x) {w : World} (hw : GT T w) : PFW w x (pvOf T hT x) := by
  intro u tu
  have e : pvOf T hT x = (parse_ex T hT x hx).choose := by unfold pvOf; rw [dif_pos hx]
  rw [e]
  exact (parse_ex T hT x hx).choose_spec u (hw.no tu).ga (hw.no tu).g3
set_option maxHeartbeats 2000000 in
set_option maxRecDepth 100000 in
theorem realBits_of (T : Tabs) (x : ByteArray) (v : Nat) (w : World) (hx : x.size ≤ 100) (hw : GT T w) (hv : PFW w (ngT x) v) :
    Calls Tryz.prog 73 #[.string x] w fun e w' => e = .returned (.int .u64 (v : Int)) ∧ Tn No w w' := by
  obtain ⟨m, hm⟩ := hw.ml
  have HR := hid (replace_raw x m w hx hm)
  have HV := hid hv
  clear hw hm hv hx
  unfold tilde minus at HR
  go_enter Tryz.func73, Tryz.ntmps73
  go_wp2_with (first
    | (go_at_call 84; refine (HR.out).mono ?_; rintro en w1 ⟨rfl, t1⟩)
    | (go_at_call 66; refine (HV.out w1 t1).mono ?_; rintro en w2 ⟨er, rfl, t2⟩))
  go_ret
  exact ⟨rfl, t1.then t2⟩
/-- the bits of a word's real -/
noncomputable def rbN (T : Tabs) (hT : T.Ok) (x : ByteArray) : Nat := pvOf T hT (ngT x)
theorem reals_pf (T : Tabs) (hT : T.Ok) (s : ByteArray) {w : World} (hw : GT T w) : PFs (rbN T hT) s w := fun a _ _ hn _ hl => pv_of T hT _ (num_wf s a hn hl) hw
theorem reals_rb (T : Tabs) (hT : T.Ok) (s : ByteArray) {w : World} (hw : GT T w) : RBs (fun x => (rbN T hT x : Int)) s w := fun a _ _ hn _ hl => by
  intro u tu
  have hwf := num_wf s a hn hl
  have hsz := hwf.tx.small
  rw [ng_size] at hsz
  exact realBits_of T _ _ u hsz (hw.no tu) (pv_of T hT _ hwf (hw.no tu))
end Go.Proofs.YtcmhfeeocehlaaaGreatDoor
namespace Go.Proofs.YtcmhfeeocehlaaaGreatDoor
set_option linter.unusedSimpArgs false
set_option linter.unusedVariables false
open Go.RowKit Go.PlainAid
attribute [local go_sem ↓] Go.wp_at_zero Go.wp_at_succ

theorem ris_same {w : World} {B C : Nat} {ng mg : Bool} {sa ra : Option Addr} {sn sc rn rc : Nat} {z : Int} (h1 : NumAt w B ng (.slice sa sn sc) z) (h2 : NumAt w C mg (.slice ra rn rc) z) {v : World} (t : Tn No w v) :
    Calls Tryz.prog 19 #[.agg #[.bool ng, .slice sa sn sc], .agg #[.bool mg, .slice ra rn rc]] v fun e v' => e = .returned (.bool true) ∧ Tn No v v' := by
  obtain ⟨a, l, e1, o1, n1, s1, i1⟩ := h1
  obtain ⟨b, m, e2, o2, _, _, i2⟩ := h2
  cases e1
  cases e2
  refine (ris_raw ng mg sa ra _ _ _ _ l m v (o1.sl.grown t.no) (o2.sl.grown t.no)).mono ?_
  rintro e v' ⟨rfl, hg⟩
  refine ⟨?_, Tn.ofgb hg⟩
  rw [i1, i2, std_of n1 s1]; simp

set_option maxHeartbeats 2000000 in
set_option maxRecDepth 100000 in
theorem one_raw (t : Tk) (ng mg : Bool) (sa ra : Option Addr) (sn sc rn rc : Nat) (w : World) (h : ∀ v, Tn No w v → Calls Tryz.prog 19 #[.agg #[.bool ng, .slice sa sn sc], .agg #[.bool mg, .slice ra rn rc]] v fun e v' => e = .returned (.bool true) ∧ Tn No v v') :
    Calls Tryz.prog 10 #[tkV t.kind t.text ng (.slice sa sn sc) t.bits t.n (t.pl : Int), tkV t.kind t.text mg (.slice ra rn rc) t.bits t.n (t.pl : Int)] w fun e w' => e = .returned (.bool true) ∧ Tn No w w' := by
  have HI := hid h
  clear h
  unfold tkV
  go_enter Tryz.func10, Tryz.ntmps10
  go_wp2_with (go_at_call 19; refine (HI.out _ (by repeat (first | exact Tn.refl _ _ | apply Tn.drew | apply Tn.drewN | apply Tn.alloc | (refine Tn.then ?_ (by assumption)) | (refine Tn.thenNo ?_ (by assumption))))).mono ?_; rintro e w1 ⟨rfl, ht⟩; obtain ⟨⟨k1, f1⟩, ⟨k2, f2⟩, s1, s2, hz⟩ := two_blocks ht; have c0 := k1 0; have c1 := k1 1; have c4 := k1 4; have c5 := k1 5; have c6 := k1 6; have b0 := k2 0; have b1 := k2 1; have b4 := k2 4; have b5 := k2 5; have b6 := k2 6; simp at c0 c1 c4 c5 c6 b0 b1 b4 b5 b6; clear k1 k2 s1 s2)
  go_ret
  exact ⟨by simp, (by repeat (first | exact Tn.refl _ _ | apply Tn.drew | apply Tn.drewN | apply Tn.alloc | (refine Tn.then ?_ (by assumption)) | (refine Tn.thenNo ?_ (by assumption))))⟩
set_option maxHeartbeats 4000000 in
set_option maxRecDepth 100000 in
theorem lexTokens_walk (rb : ByteArray → Nat) (s : ByteArray) (w : World) (hs : s.size ≤ 140737488351232) (hr : RBs (fun x => (rb x : Int)) s w) (hp : PFs rb s w) :
    Calls Tryz.prog 3 #[.string s] w fun e w' => e = .returned (.bool true) ∧ Tn No w w' := by
  have hA := fun (w' : World) (t : Tn No w w') => tokens_raw (fun x => (rb x : Int)) s w' (by omega) (hr.no t)
  have hB := fun (w' : World) (t : Tn No w w') => rtokens_raw rb s w' (by omega) (hp.no t)
  cases hl : lexW (fun x => (rb x : Int)) s with
  | bad c p =>
    rw [hl] at hA hB
    have HA := hid hA
    have HB := hid hB
    clear hA hB hl hr hp
    go_enter Tryz.func3, Tryz.ntmps3
    go_wp2_with (first
      | (go_at_call 7; refine (awake_raw _).mono ?_; rintro e w1 ⟨rfl, t1⟩)
      | (go_at_call 8; refine (HA.out _ (by repeat (first | exact Tn.refl _ _ | apply Tn.drew | apply Tn.drewN | apply Tn.alloc | (refine Tn.then ?_ (by assumption)) | (refine Tn.thenNo ?_ (by assumption))))).mono ?_; rintro e w2 ⟨t2, rfl⟩; simp only [msV])
      | (go_at_call 9; refine (HB.out _ (by repeat (first | exact Tn.refl _ _ | apply Tn.drew | apply Tn.drewN | apply Tn.alloc | (refine Tn.then ?_ (by assumption)) | (refine Tn.thenNo ?_ (by assumption))))).mono ?_; rintro e w3 ⟨t3, rfl⟩; simp only [msV]; obtain ⟨k3, _, z3⟩ := one_block t3; have k30 := k3 0; have k31 := k3 1; simp at k30 k31; have y3 : w2.heap.size < w3.heap.size := z3; clear k3))
    have hqw := t1.then (t2.then (Tn.thenNo ((Tn.refl No w2).alloc _) t3))
    have HQW := hid hqw
    clear hqw t1 t2 t3 k30 k31 y3 HA HB
    go_loop [8] (fun i => i = .int .i64 0) (fun _ => 0)
    case atStart => rfl
    case round =>
      subst hrel
      go_wp2_with fail
      go_ret
      exact ⟨rfl, HQW.out.alloc _⟩
  | ok x =>
    rw [hl] at hA hB
    have HA := hid hA
    have HB := hid hB
    obtain ⟨hxl, _⟩ := lexW_bound hl
    obtain ⟨nx, hnx⟩ : ∃ n, x.length = n := ⟨_, rfl⟩
    have HNX := hid hnx
    rw [hnx] at hxl
    have HXL := hid hxl
    clear hA hB hl hr hp hnx hxl
    go_enter Tryz.func3, Tryz.ntmps3
    go_wp2_with (first
      | (go_at_call 7; refine (awake_raw _).mono ?_; rintro e w1 ⟨rfl, t1⟩)
      | (go_at_call 8; refine (HA.out _ (by repeat (first | exact Tn.refl _ _ | apply Tn.drew | apply Tn.drewN | apply Tn.alloc | (refine Tn.then ?_ (by assumption)) | (refine Tn.thenNo ?_ (by assumption))))).mono ?_; rintro e w2 ⟨t2, ax, cx, rfl, tlx, ox⟩; have HTLX := hid tlx; clear tlx ox; rw [HNX.out]; simp only [msV])
      | (go_at_call 9; refine (HB.out _ (by repeat (first | exact Tn.refl _ _ | apply Tn.drew | apply Tn.drewN | apply Tn.alloc | (refine Tn.then ?_ (by assumption)) | (refine Tn.thenNo ?_ (by assumption))))).mono ?_; rintro e w3 ⟨t3, au, cu, rfl, tlu, ou⟩; have HTLU := hid tlu; clear tlu ou; rw [HNX.out]; simp only [msV]; obtain ⟨k3, _, z3⟩ := one_block t3; have k30 := k3 0; have k31 := k3 1; simp at k30 k31; have y3 : w2.heap.size < w3.heap.size := z3; clear k3))
    have HTX3 := hid (HTLX.out.no (Tn.thenNo ((Tn.refl No w2).alloc _) t3))
    have HQW := hid ((t1.then t2).then (Tn.thenNo ((Tn.refl No w2).alloc _) t3))
    clear t1 t2 t3 k30 k31 y3 HTLX HA HB
    go_loopw [8] (fun i wr => ∃ j : Nat, j ≤ nx ∧ i = .int .i64 (j : Int) ∧ Tn No (w3.alloc (.cells #[.int .i64 0, .int .i64 0] 26)) wr) (fun i _ => nx - (intOf i).toNat)
    case atStart => exact ⟨0, Nat.zero_le _, rfl, Tn.refl _ _⟩
    case round =>
      obtain ⟨j, hj, rfl, ht9⟩ := hrel
      have HT9 := hid ht9
      have q3 := Tn.thenNo ((Tn.refl No w3).alloc _) ht9
      have HQ9 := hid (HQW.out.then q3)
      have tlx := HTX3.out.no q3
      have tlu := HTLU.out.no q3
      have hnx := HNX.out
      have hxl := HXL.out
      rw [hnx] at tlx tlu
      clear q3 ht9
      by_cases hjk : j = nx
      · have hjk2 := hjk.symm
        subst hjk2
        clear tlx tlu hnx hxl
        go_wp2_with fail
        go_ret
        exact ⟨rfl, HQ9.out⟩
      · have hlt : j < nx := by omega
        have hltI : (j : Int) < (nx : Int) := by omega
        obtain ⟨gx, cx', ex, hgx, hcx, hcx2⟩ := tlx.pos (by omega)
        rw [hnx] at ex
        simp only [Value.slice.injEq] at ex
        obtain ⟨rfl, _, rfl⟩ := ex
        obtain ⟨gu, cu', eu, hgu, hcu, hcu2⟩ := tlu.pos (by omega)
        rw [hnx] at eu
        simp only [Value.slice.injEq] at eu
        obtain ⟨rfl, _, rfl⟩ := eu
        obtain ⟨tk, htk⟩ : ∃ tk, x[j]? = some tk := ⟨_, List.getElem?_eq_getElem (by omega)⟩
        obtain ⟨ng, sa, sn, sc, c0, c1, c2, c3, c4, c5, c6, nc⟩ := tlx.row htk
        obtain ⟨mg, ra, rn, rc, b0, b1, b2, b3, b4, b5, b6, nb⟩ := tlu.row htk
        have HONE := hid (fun v (t : Tn No wr v) => one_raw tk ng mg sa ra sn sc rn rc v (fun u tu => ris_same nc nb (t.then tu)))
        have HCELL : Hid (∀ v, Tn No wr v → v.cell? ⟨gx, j * 7, none⟩ = some (.int .i64 tk.kind) ∧ v.cell? ⟨gx, j * 7 + 1, none⟩ = some (.string tk.text) ∧ v.cell? ⟨gx, j * 7 + 2, none⟩ = some (.bool ng) ∧ v.cell? ⟨gx, j * 7 + 3, none⟩ = some (.slice sa sn sc) ∧ v.cell? ⟨gx, j * 7 + 4, none⟩ = some (.int .u64 tk.bits) ∧ v.cell? ⟨gx, j * 7 + 5, none⟩ = some (.int .i64 tk.n) ∧ v.cell? ⟨gx, j * 7 + 6, none⟩ = some (.int .i64 (tk.pl : Int)) ∧ v.cell? ⟨gu, j * 7, none⟩ = some (.int .i64 tk.kind) ∧ v.cell? ⟨gu, j * 7 + 1, none⟩ = some (.string tk.text) ∧ v.cell? ⟨gu, j * 7 + 2, none⟩ = some (.bool mg) ∧ v.cell? ⟨gu, j * 7 + 3, none⟩ = some (.slice ra rn rc) ∧ v.cell? ⟨gu, j * 7 + 4, none⟩ = some (.int .u64 tk.bits) ∧ v.cell? ⟨gu, j * 7 + 5, none⟩ = some (.int .i64 tk.n) ∧ v.cell? ⟨gu, j * 7 + 6, none⟩ = some (.int .i64 (tk.pl : Int))) :=
          hid (fun v t => ⟨(t.cell hgx (fun e => e)).trans c0, (t.cell hgx (fun e => e)).trans c1, (t.cell hgx (fun e => e)).trans c2, (t.cell hgx (fun e => e)).trans c3, (t.cell hgx (fun e => e)).trans c4, (t.cell hgx (fun e => e)).trans c5, (t.cell hgx (fun e => e)).trans c6, (t.cell hgu (fun e => e)).trans b0, (t.cell hgu (fun e => e)).trans b1, (t.cell hgu (fun e => e)).trans b2, (t.cell hgu (fun e => e)).trans b3, (t.cell hgu (fun e => e)).trans b4, (t.cell hgu (fun e => e)).trans b5, (t.cell hgu (fun e => e)).trans b6⟩)
        have hk1 : IntKind.i64.wrap ((j : Int) + 1) = ((j + 1 : Nat) : Int) := by rw [IntKind.wrap_i64]; omega
        unfold tkV at HONE
        clear tlx tlu htk nc nb hnx hjk hcx hcu hlt hxl
        go_wp2_with fail
        go_region_held3 (fun w' => w'.cell? ⟨gx, j * 7, none⟩ = some (.int .i64 tk.kind) ∧ w'.cell? ⟨gx, j * 7 + 1, none⟩ = some (.string tk.text) ∧ w'.cell? ⟨gx, j * 7 + 2, none⟩ = some (.bool ng) ∧ w'.cell? ⟨gx, j * 7 + 3, none⟩ = some (.slice sa sn sc) ∧ w'.cell? ⟨gx, j * 7 + 4, none⟩ = some (.int .u64 tk.bits) ∧ w'.cell? ⟨gx, j * 7 + 5, none⟩ = some (.int .i64 tk.n) ∧ w'.cell? ⟨gx, j * 7 + 6, none⟩ = some (.int .i64 (tk.pl : Int)) ∧ w'.cell? ⟨gu, j * 7, none⟩ = some (.int .i64 tk.kind) ∧ w'.cell? ⟨gu, j * 7 + 1, none⟩ = some (.string tk.text) ∧ w'.cell? ⟨gu, j * 7 + 2, none⟩ = some (.bool mg) ∧ w'.cell? ⟨gu, j * 7 + 3, none⟩ = some (.slice ra rn rc) ∧ w'.cell? ⟨gu, j * 7 + 4, none⟩ = some (.int .u64 tk.bits) ∧ w'.cell? ⟨gu, j * 7 + 5, none⟩ = some (.int .i64 tk.n) ∧ w'.cell? ⟨gu, j * 7 + 6, none⟩ = some (.int .i64 (tk.pl : Int))) (go_keep)
          (first | (go_at_call 10; refine (HONE.out _ (by first | exact Tn.refl _ _ | exact (Tn.refl No wr).drew)).mono ?_; rintro e w9 ⟨rfl, t9⟩; have t9' : Tn No wr w9 := (by first | exact t9 | exact ((Tn.refl No wr).drew).then t9); obtain ⟨d0, d1, d2, d3, d4, d5, d6, f0, f1, f2, f3, f4, f5, f6⟩ := HCELL.out w9 t9'))
        clear c0 c1 c2 c3 c4 c5 c6 b0 b1 b2 b3 b4 b5 b6
        go_wp2_with fail
        have ht := HT9.out
        refine ⟨⟨j + 1, by omega, by simp, (by repeat (first | exact Tn.refl _ _ | apply Tn.drew | apply Tn.drewN | apply Tn.alloc | (refine Tn.then ?_ (by assumption)) | (refine Tn.thenNo ?_ (by assumption))))⟩, ?_⟩
        simp [intOf]; omega
end Go.Proofs.YtcmhfeeocehlaaaGreatDoor
