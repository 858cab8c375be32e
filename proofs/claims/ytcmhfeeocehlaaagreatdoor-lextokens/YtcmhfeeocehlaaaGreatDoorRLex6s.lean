/-
  The reference's lexer: a row of symbol bytes at a place.
-/
import Derived.Test.YtcmhfeeocehlaaaGreatDoorRLexA
import Derived.Deep.DeepCutAuto
import Derived.Deep.CutBlock
import Derived.Deep.CutRange
namespace Go.Proofs.YtcmhfeeocehlaaaGreatDoor
set_option linter.unusedSimpArgs false
set_option linter.unusedVariables false
open Go.RowKit Go.PlainAid
attribute [local go_sem ↓] Go.wp_at_zero Go.wp_at_succ

theorem resv_len {l : List UInt8} (h : resv l = true) : l.length ≤ 9 := by
  have : ∀ x ∈ resL, x.length ≤ 9 := by decide
  unfold resv at h
  exact this l (by simpa using h)


set_option maxHeartbeats 8000000 in
set_option maxRecDepth 100000 in
theorem rword_sym (s : ByteArray) (a : Nat) (w : World) (hs : s.size ≤ 65536) (ha : a < s.size) (hL : isL (bt s a) = false) (hD : isD (bt s a) = false) (hT : bt s a = 126 → isD (bt s (a + 1)) = false) (h34 : ¬ bt s a = 34) (h35 : ¬ (bt s a = 35 ∧ bt s (a + 1) = 34)) (h39 : ¬ bt s a = 39) (hO : isO (bt s a) = false) (hS : isS (bt s a) = true) :
    Calls Tryz.prog 18 #[.string s, .int .i64 (a : Int)] w (WPost w (symW s a).z) := by
  have hb := get_bt s a ha
  have haI : (a : Int) < (s.size : Int) := by omega
  have HB := hid (fun w => rat_raw s (a + 1) w)
  rw [cast1] at HB
  have HL := hid (fun w => rletter_raw (bt s a) w (bt_nonneg s _) (bt_le s _))
  have HD := hid (fun w => rdigit_raw (bt s a) w (bt_nonneg s _) (bt_le s _))
  have HD2 := hid (fun w => rdigit_raw (bt s (a + 1)) w (bt_nonneg s _) (bt_le s _))
  have HO := hid (fun w => ralone_raw (bt s a) w (bt_nonneg s _) (bt_le s _))
  have HS := hid (fun w => rsymbolic_raw (bt s a) w (bt_nonneg s _) (bt_le s _))
  rw [hL] at HL
  rw [hD] at HD
  rw [hO] at HO
  rw [hS] at HS
  have hge := run_ge isS s a
  have hle := run_le isS s a (by omega)
  have hrr := fun w => rreserved_raw (s.extract a (run isS s a)) w
  have hsh := fun k w => rshort_raw k s a (run isS s a) w hs hge hle
  have hO2 : ∃ kd : Int, (resv (s.extract a (run isS s a)).data.toList = true → kd = 8) ∧ (resv (s.extract a (run isS s a)).data.toList = false → kd = 2) ∧ symW s a = limd kd s a (run isS s a) 64 := by
    unfold symW
    cases hv : resv (s.extract a (run isS s a)).data.toList with
    | true =>
      have h9 := resv_len hv
      rw [← Lib.size_eq, ext_size2 s a _ hle] at h9
      refine ⟨8, (fun _ => rfl), (fun h => absurd h (by decide)), ?_⟩
      rw [if_pos rfl]
      unfold limd
      rw [if_neg (by omega)]
    | false => exact ⟨2, (fun h => absurd h (by decide)), (fun _ => rfl), if_neg (by simp)⟩
  obtain ⟨kd, hk8, hk2, hsy⟩ := hO2
  rw [hsy]
  have HSH2 := hid (hsh kd)
  obtain ⟨R, hR⟩ : ∃ R, run isS s a = R := ⟨_, rfl⟩
  rw [hR] at hrr hk8 hk2 HSH2 hge hle ⊢
  have HR0 := hid hR
  have HRR := hid hrr
  have HK8 := hid hk8
  have HK2 := hid hk2
  have HBS := hid (get_bt s)
  obtain ⟨c, hc⟩ : ∃ c, bt s a = c := ⟨_, rfl⟩
  obtain ⟨d, hd⟩ : ∃ d, bt s (a + 1) = d := ⟨_, rfl⟩
  rw [hc] at hb HL HD HO HS hT h34 h35 h39
  rw [hd] at HB HD2 hT h35
  have n34 : (c == 34) = false := by rw [beq_eq_false_iff_ne]; exact h34
  have n39 : (c == 39) = false := by rw [beq_eq_false_iff_ne]; exact h39
  have HT0 := hid hT
  have H35 := hid h35
  clear hrr hk8 hk2 hsh hsy hR hS hL hD hO hT h34 h35 h39 hc hd
  go_enter Tryz.func18, Tryz.ntmps18
  go_upto_region 4 with (first
    | (go_at_call 39; refine (HL.out _).mono ?_; rintro e w' ⟨rfl, rfl⟩)
    | fail)
  go_cut [29] (fun v wx => v = .bool false ∧ wx = (w.alloc (.cells #[.int .i64 0, .string ⟨#[]⟩, .bool false, .slice none 0 0, .int .u64 0, .int .i64 0, .int .i64 0] 39)).alloc (.cells #[.int .i64 0, .int .i64 0] 26))
  case first =>
    by_cases e126 : c = 126
    · have hd0 := HT0.out e126
      rw [hd0] at HD2
      subst e126
      clear hd0
      go_wp2_with (first
        | (go_at_call 41; first | (refine (HD.out _).mono ?_; rintro e w' ⟨rfl, rfl⟩; clear HD) | (refine (HD2.out _).mono ?_; rintro e w' ⟨rfl, rfl⟩))
        | (go_at_call 38; refine (HB.out _).mono ?_; rintro e w' ⟨rfl, rfl⟩))
      go_meet
      exact ⟨rfl, rfl⟩
    · have n126 : (c == 126) = false := by rw [beq_eq_false_iff_ne]; exact e126
      clear e126
      go_wp2_with (go_at_call 41; refine (HD.out _).mono ?_; rintro e w' ⟨rfl, rfl⟩)
      go_meet
      exact ⟨rfl, rfl⟩
  case rest =>
    obtain ⟨rfl, rfl⟩ := hcut
    go_upto_region 9 with fail
    go_cut [63] (fun v wx => v = .bool false ∧ wx = (w.alloc (.cells #[.int .i64 0, .string ⟨#[]⟩, .bool false, .slice none 0 0, .int .u64 0, .int .i64 0, .int .i64 0] 39)).alloc (.cells #[.int .i64 0, .int .i64 0] 26))
    case first =>
      by_cases e35 : c = 35
      · have hd0 : (d == 34) = false := by rw [beq_eq_false_iff_ne]; exact fun e => H35.out ⟨e35, e⟩
        subst e35
        go_wp2_with (go_at_call 38; refine (HB.out _).mono ?_; rintro e w' ⟨rfl, rfl⟩)
        go_meet
        exact ⟨rfl, rfl⟩
      · have n35 : (c == 35) = false := by rw [beq_eq_false_iff_ne]; exact e35
        clear e35
        go_wp2_with fail
        go_meet
        exact ⟨rfl, rfl⟩
    case rest =>
      obtain ⟨rfl, rfl⟩ := hcut
      clear HB HD HD2 HT0 H35 HL
      go_wp2_with (first
        | (go_at_call 46; refine (HO.out _).mono ?_; rintro e w' ⟨rfl, rfl⟩)
        | (go_at_call 47; refine (HS.out _).mono ?_; rintro e w' ⟨rfl, rfl⟩; clear HS))
      go_loop [15] (fun i => ∃ k : Nat, a ≤ k ∧ k ≤ s.size ∧ i = .int .i64 (k : Int) ∧ Hid (run isS s k = R)) (fun i => s.size - (intOf i).toNat)
      case atStart => exact ⟨a, Nat.le_refl _, by omega, rfl, HR0⟩
      case round =>
        obtain ⟨k, hk1, hk2, rfl, HP⟩ := hrel
        clear HR0 hb n34 n39 HO
        by_cases hlt : k < s.size
        · have hkI : (k : Int) < (s.size : Int) := by omega
          have hbk := HBS.out k hlt
          by_cases hp : isS (bt s k) = true
          · have HY := hid (run_yes hlt hp)
            go_wp2_with (go_at_call 47; refine (rsymbolic_raw _ _ (bt_nonneg s k) (bt_le s k)).mono ?_; rintro e w' ⟨rfl, rfl⟩)
            go_round
            · exact ⟨k + 1, by omega, by omega, by simp, hid (HY.out.symm.trans HP.out)⟩
            · simp [intOf]; omega
          · have hpf : isS (bt s k) = false := by simpa using hp
            have hkR : k = R := by rw [← HP.out]; exact (run_no (p := isS) hpf).symm
            have HSK := hid (fun w => by have := rsymbolic_raw (bt s k) w (bt_nonneg s k) (bt_le s k); rw [hpf] at this; exact this)
            subst hkR
            clear HP hp hpf
            cases hv : resv (s.extract a k).data.toList with
            | true =>
              have hkd := HK8.out hv
              subst hkd
              have HRV := hid (fun w => by have := HRR.out w; rw [hv] at this; exact this)
              clear hv HRR HK8 HK2
              go_wp2_with (first
                | (go_at_call 47; refine (HSK.out _).mono ?_; rintro e w' ⟨rfl, rfl⟩)
                | (go_at_call 12; refine (HRV.out _).mono ?_; rintro e w' ⟨rfl, rfl⟩)
                | (go_at_call 44; refine (HSH2.out _).mono ?_; rintro e w1 ⟨ht, k1, x1, ng1, sa1, sn1, sc1, b1, n1, p1, en1, c1, pp1, rfl, hsh⟩; simp only [tkV, msV]; have HSH := hid hsh; clear hsh; obtain ⟨⟨k1, f1⟩, ⟨k2, f2⟩, s1, s2, hz⟩ := two_blocks ht; have HS1 := hid (fun i (hi : i < 7) => s1 i hi); have HS2 := hid (fun i (hi : i < 2) => s2 i hi); clear s1 s2; have k10 := k1 0; have k11 := k1 1; have k12 := k1 2; have k13 := k1 3; have k14 := k1 4; have k15 := k1 5; have k16 := k1 6; have k20 := k2 0; have k21 := k2 1; simp at k10 k11 k12 k13 k14 k15 k16 k20 k21; clear k1 k2; have HT := hid ht; clear ht; have hzA := Nat.lt_of_lt_of_le (Nat.lt_add_of_pos_right (by decide : 0 < 2)) hz; have hzB := Nat.lt_of_lt_of_le (Nat.add_lt_add_left (by decide : 1 < 2) _) hz))
              change bodyPost _ _ _ _ _ (put9 w1 w.heap.size (w.heap.size + 1) _ _ _ _ _ _ _ _ _); refine put9_all (bodyPost _ _ _ _ _) (by omega) HS1.out HS2.out ?_; rintro W ⟨q0, q1, q2, q3, q4, q5, q6, r0, r1⟩ hoth hsz htn; have HTN := hid (htn w (Tn.thenNo (((Tn.refl No w).alloc _).alloc _) HT.out) (by omega) (by omega)); clear htn; refine bodyPost_ret (v := .tuple #[tkV k1 x1 ng1 (.slice sa1 sn1 sc1) b1 n1 p1, .int .i64 en1, msV c1 pp1]) (by simp [results, Tryz.results18, go_sem, tkV, msV, q0, q1, q2, q3, q4, q5, q6, r0, r1]) rfl ?_; exact ⟨HTN.out, _, _, _, _, _, _, _, _, _, _, _, _, rfl, HSH.out.pass hoth hsz (by first | (simp; done) | (simp; omega) | omega) (by first | (simp; done) | (simp; omega) | omega)⟩
            | false =>
              have hkd := HK2.out hv
              subst hkd
              have HRV := hid (fun w => by have := HRR.out w; rw [hv] at this; exact this)
              clear hv HRR HK8 HK2
              go_wp2_with (first
                | (go_at_call 47; refine (HSK.out _).mono ?_; rintro e w' ⟨rfl, rfl⟩)
                | (go_at_call 12; refine (HRV.out _).mono ?_; rintro e w' ⟨rfl, rfl⟩)
                | (go_at_call 44; refine (HSH2.out _).mono ?_; rintro e w1 ⟨ht, k1, x1, ng1, sa1, sn1, sc1, b1, n1, p1, en1, c1, pp1, rfl, hsh⟩; simp only [tkV, msV]; have HSH := hid hsh; clear hsh; obtain ⟨⟨k1, f1⟩, ⟨k2, f2⟩, s1, s2, hz⟩ := two_blocks ht; have HS1 := hid (fun i (hi : i < 7) => s1 i hi); have HS2 := hid (fun i (hi : i < 2) => s2 i hi); clear s1 s2; have k10 := k1 0; have k11 := k1 1; have k12 := k1 2; have k13 := k1 3; have k14 := k1 4; have k15 := k1 5; have k16 := k1 6; have k20 := k2 0; have k21 := k2 1; simp at k10 k11 k12 k13 k14 k15 k16 k20 k21; clear k1 k2; have HT := hid ht; clear ht; have hzA := Nat.lt_of_lt_of_le (Nat.lt_add_of_pos_right (by decide : 0 < 2)) hz; have hzB := Nat.lt_of_lt_of_le (Nat.add_lt_add_left (by decide : 1 < 2) _) hz))
              change bodyPost _ _ _ _ _ (put9 w1 w.heap.size (w.heap.size + 1) _ _ _ _ _ _ _ _ _); refine put9_all (bodyPost _ _ _ _ _) (by omega) HS1.out HS2.out ?_; rintro W ⟨q0, q1, q2, q3, q4, q5, q6, r0, r1⟩ hoth hsz htn; have HTN := hid (htn w (Tn.thenNo (((Tn.refl No w).alloc _).alloc _) HT.out) (by omega) (by omega)); clear htn; refine bodyPost_ret (v := .tuple #[tkV k1 x1 ng1 (.slice sa1 sn1 sc1) b1 n1 p1, .int .i64 en1, msV c1 pp1]) (by simp [results, Tryz.results18, go_sem, tkV, msV, q0, q1, q2, q3, q4, q5, q6, r0, r1]) rfl ?_; exact ⟨HTN.out, _, _, _, _, _, _, _, _, _, _, _, _, rfl, HSH.out.pass hoth hsz (by first | (simp; done) | (simp; omega) | omega) (by first | (simp; done) | (simp; omega) | omega)⟩
        · have hkR : k = R := by rw [← HP.out]; exact (run_end (p := isS) (by omega)).symm
          have hkI : decide ((k : Int) < (s.size : Int)) = false := by rw [decide_eq_false_iff_not]; omega
          have hkN : s.size ≤ k := by omega
          subst hkR
          clear HP
          cases hv : resv (s.extract a k).data.toList with
          | true =>
            have hkd := HK8.out hv
            subst hkd
            have HRV := hid (fun w => by have := HRR.out w; rw [hv] at this; exact this)
            clear hv HRR HK8 HK2
            go_wp2_with (first
              | (go_at_call 12; refine (HRV.out _).mono ?_; rintro e w' ⟨rfl, rfl⟩)
              | (go_at_call 44; refine (HSH2.out _).mono ?_; rintro e w1 ⟨ht, k1, x1, ng1, sa1, sn1, sc1, b1, n1, p1, en1, c1, pp1, rfl, hsh⟩; simp only [tkV, msV]; have HSH := hid hsh; clear hsh; obtain ⟨⟨k1, f1⟩, ⟨k2, f2⟩, s1, s2, hz⟩ := two_blocks ht; have HS1 := hid (fun i (hi : i < 7) => s1 i hi); have HS2 := hid (fun i (hi : i < 2) => s2 i hi); clear s1 s2; have k10 := k1 0; have k11 := k1 1; have k12 := k1 2; have k13 := k1 3; have k14 := k1 4; have k15 := k1 5; have k16 := k1 6; have k20 := k2 0; have k21 := k2 1; simp at k10 k11 k12 k13 k14 k15 k16 k20 k21; clear k1 k2; have HT := hid ht; clear ht; have hzA := Nat.lt_of_lt_of_le (Nat.lt_add_of_pos_right (by decide : 0 < 2)) hz; have hzB := Nat.lt_of_lt_of_le (Nat.add_lt_add_left (by decide : 1 < 2) _) hz))
            change bodyPost _ _ _ _ _ (put9 w1 w.heap.size (w.heap.size + 1) _ _ _ _ _ _ _ _ _); refine put9_all (bodyPost _ _ _ _ _) (by omega) HS1.out HS2.out ?_; rintro W ⟨q0, q1, q2, q3, q4, q5, q6, r0, r1⟩ hoth hsz htn; have HTN := hid (htn w (Tn.thenNo (((Tn.refl No w).alloc _).alloc _) HT.out) (by omega) (by omega)); clear htn; refine bodyPost_ret (v := .tuple #[tkV k1 x1 ng1 (.slice sa1 sn1 sc1) b1 n1 p1, .int .i64 en1, msV c1 pp1]) (by simp [results, Tryz.results18, go_sem, tkV, msV, q0, q1, q2, q3, q4, q5, q6, r0, r1]) rfl ?_; exact ⟨HTN.out, _, _, _, _, _, _, _, _, _, _, _, _, rfl, HSH.out.pass hoth hsz (by first | (simp; done) | (simp; omega) | omega) (by first | (simp; done) | (simp; omega) | omega)⟩
          | false =>
            have hkd := HK2.out hv
            subst hkd
            have HRV := hid (fun w => by have := HRR.out w; rw [hv] at this; exact this)
            clear hv HRR HK8 HK2
            go_wp2_with (first
              | (go_at_call 12; refine (HRV.out _).mono ?_; rintro e w' ⟨rfl, rfl⟩)
              | (go_at_call 44; refine (HSH2.out _).mono ?_; rintro e w1 ⟨ht, k1, x1, ng1, sa1, sn1, sc1, b1, n1, p1, en1, c1, pp1, rfl, hsh⟩; simp only [tkV, msV]; have HSH := hid hsh; clear hsh; obtain ⟨⟨k1, f1⟩, ⟨k2, f2⟩, s1, s2, hz⟩ := two_blocks ht; have HS1 := hid (fun i (hi : i < 7) => s1 i hi); have HS2 := hid (fun i (hi : i < 2) => s2 i hi); clear s1 s2; have k10 := k1 0; have k11 := k1 1; have k12 := k1 2; have k13 := k1 3; have k14 := k1 4; have k15 := k1 5; have k16 := k1 6; have k20 := k2 0; have k21 := k2 1; simp at k10 k11 k12 k13 k14 k15 k16 k20 k21; clear k1 k2; have HT := hid ht; clear ht; have hzA := Nat.lt_of_lt_of_le (Nat.lt_add_of_pos_right (by decide : 0 < 2)) hz; have hzB := Nat.lt_of_lt_of_le (Nat.add_lt_add_left (by decide : 1 < 2) _) hz))
            change bodyPost _ _ _ _ _ (put9 w1 w.heap.size (w.heap.size + 1) _ _ _ _ _ _ _ _ _); refine put9_all (bodyPost _ _ _ _ _) (by omega) HS1.out HS2.out ?_; rintro W ⟨q0, q1, q2, q3, q4, q5, q6, r0, r1⟩ hoth hsz htn; have HTN := hid (htn w (Tn.thenNo (((Tn.refl No w).alloc _).alloc _) HT.out) (by omega) (by omega)); clear htn; refine bodyPost_ret (v := .tuple #[tkV k1 x1 ng1 (.slice sa1 sn1 sc1) b1 n1 p1, .int .i64 en1, msV c1 pp1]) (by simp [results, Tryz.results18, go_sem, tkV, msV, q0, q1, q2, q3, q4, q5, q6, r0, r1]) rfl ?_; exact ⟨HTN.out, _, _, _, _, _, _, _, _, _, _, _, _, rfl, HSH.out.pass hoth hsz (by first | (simp; done) | (simp; omega) | omega) (by first | (simp; done) | (simp; omega) | omega)⟩
end Go.Proofs.YtcmhfeeocehlaaaGreatDoor
