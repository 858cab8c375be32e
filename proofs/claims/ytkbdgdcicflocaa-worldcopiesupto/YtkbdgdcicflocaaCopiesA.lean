/-
  The law WorldCopies.
-/
import Derived.Test.YtkbdgdcicflocaaCopies0
import Derived.Test.YtkbdgdcicflocaaCopy
import Derived.Test.YtkbdgdcicflocaaRCopy
namespace Go.Proofs.Ytkbdgdcicflocaa
set_option linter.unusedSimpArgs false
set_option linter.unusedVariables false
open Go.RowKit
attribute [local go_sem ↓] Go.wp_at_zero Go.wp_at_succ

/-- both are copied -/
theorem inv_copy {W u : World} {p q N : Nat} {S : St} (h : Inv W u p q N S) (hN : 3 * N + 1 ≤ 1099511627776) (hi : S.inp.length ≤ 1099511627776) :
    Calls Try.prog 14 #[.pointer (some ⟨p, 0, none⟩)] u fun e u1 => ∃ c, e = .returned (.pointer (some ⟨c, 0, none⟩)) ∧ Tn No u u1 ∧
      Calls Try.prog 15 #[.pointer (some ⟨q, 0, none⟩)] u1 fun e u2 => ∃ s, e = .returned (.pointer (some ⟨s, 0, none⟩)) ∧ Two W u2 p q N S c s (3 * N) S := by
  have h' := h
  obtain ⟨t, X, ⟨L, L', a, b, r⟩, hX⟩ := h
  refine (copy_raw p L N S u a hN hi).mono (fun e u1 ⟨c, h1, h2⟩ => ⟨c, h1, h2.tn, ?_⟩)
  refine (rcopy_raw u1 q L' N S (b.no h2.tn) (by omega)).mono (fun e u2 ⟨s, h3, h4⟩ => ⟨s, h3, two_new h' h2 (h4.mono (by omega))⟩)

theorem stp_cells {W u : World} {a : Option Addr} {m : Nat} {xs : List Stp} (h : StepsAt W a m xs) (t : Tn No W u) (j : Nat) (hj : j < m) : ∃ g off x, a = some ⟨g, off, none⟩ ∧ g < u.heap.size ∧ (∃ hj : j < xs.length, xs[j] = x) ∧ x.ok ∧ u.cell? ⟨g, off + j * 5, none⟩ = some (.int .i64 x.kind) ∧ u.cell? ⟨g, off + j * 5 + 1, none⟩ = some (.int .i64 x.fd) ∧ u.cell? ⟨g, off + j * 5 + 2, none⟩ = some (.int .u64 (x.n : Int)) ∧ u.cell? ⟨g, off + j * 5 + 3, none⟩ = some (.string x.name) ∧ u.cell? ⟨g, off + j * 5 + 4, none⟩ = some (.string x.text) := by
  obtain ⟨g, off, e, hg, hc⟩ := h.at' (by omega)
  have hl : j < xs.length := by rw [h.len]; exact hj
  obtain ⟨c0, c1, c2, c3, c4⟩ := hc j hl
  exact ⟨g, off, xs[j], e, Nat.lt_of_lt_of_le hg t.size, ⟨hl, rfl⟩, h.ok _ (List.getElem_mem _), (t.cell hg (fun e => e)).trans c0, (t.cell hg (fun e => e)).trans c1, (t.cell hg (fun e => e)).trans c2, (t.cell hg (fun e => e)).trans c3, (t.cell hg (fun e => e)).trans c4⟩
end Go.Proofs.Ytkbdgdcicflocaa
namespace Go.Proofs.Ytkbdgdcicflocaa
set_option linter.unusedSimpArgs false
set_option linter.unusedVariables false
open Go.RowKit
attribute [local go_sem ↓] Go.wp_at_zero Go.wp_at_succ

/-- a step of the one pair of two -/
theorem two_next {W u : World} {p q c s B A : Nat} {S R : St} {a : Option Addr} {m : Nat} {xs : List Stp} (hx : StepsAt W a m xs) (i : Nat) (hi : i < m) (hf : FT S) (hin : S.inp.length ≤ 9223372036854775806) (hb : B ≤ 40000000) (ht : tot5 xs m ≤ 8388608) (h : Two W u p q (B + tot5 xs i) (runs S xs i) c s A R) :
    ∃ g off x, a = some ⟨g, off, none⟩ ∧ g < u.heap.size ∧ u.cell? ⟨g, off + i * 5, none⟩ = some (.int .i64 (Stp.kind x)) ∧ u.cell? ⟨g, off + i * 5 + 1, none⟩ = some (.int .i64 x.fd) ∧ u.cell? ⟨g, off + i * 5 + 2, none⟩ = some (.int .u64 (x.n : Int)) ∧ u.cell? ⟨g, off + i * 5 + 3, none⟩ = some (.string x.name) ∧ u.cell? ⟨g, off + i * 5 + 4, none⟩ = some (.string x.text) ∧
      Calls Try.prog 12 #[.pointer (some ⟨p, 0, none⟩), .pointer (some ⟨q, 0, none⟩), x.val] u fun e u' => e = .returned (.bool true) ∧ Two W u' p q (B + tot5 xs (i + 1)) (runs S xs (i + 1)) c s A R := by
  obtain ⟨g, off, x, hb3, hgl, ⟨hjl, hxe⟩, hok, z0, z1, z2, z3, z4⟩ := stp_cells hx h.1 i hi
  have hts := tot5_succ xs i hjl
  have htl := tot5_le xs (i + 1)
  rw [hx.len] at htl
  rw [hxe] at hts
  have hd := two_does h (ft_runs hf xs i) (by rw [inp_runs]; exact hin) x hok (by omega)
  rw [← hxe, ← runs_succ S xs i hjl, hxe, show B + tot5 xs i + 2 * x.text.size + 4 = B + tot5 xs (i + 1) by omega] at hd
  exact ⟨g, off, x, hb3, hgl, z0, z1, z2, z3, z4, hd⟩
theorem two_whole {W u : World} {p q N : Nat} {S : St} {c s M : Nat} {R : St} (h : Two W u p q N S c s M R) (hN : N + N + 1 ≤ 1099511627776) :
    Calls Try.prog 13 #[.pointer (some ⟨p, 0, none⟩), .pointer (some ⟨q, 0, none⟩)] u fun e u' => e = .returned (.bool true) ∧ Two W u' p q N S c s M R := by
  have h' := h
  obtain ⟨t, X, Y, a, b, hX, hY, e⟩ := h
  exact (whole_raw u p q N S X a (by omega)).mono (fun e u' ⟨h1, h2⟩ => ⟨h1, h'.no h2⟩)
theorem tot5_stay (xs : List Stp) (i : Nat) (h : xs.length ≤ i) : tot5 xs (i + 1) = tot5 xs i := by
  unfold tot5
  rw [List.take_of_length_le h, List.take_of_length_le (by omega)]
theorem runs_stay (S : St) (xs : List Stp) (i : Nat) (h : xs.length ≤ i) : runs S xs (i + 1) = runs S xs i := by
  unfold runs
  rw [List.take_of_length_le h, List.take_of_length_le (by omega)]

set_option maxHeartbeats 8000000 in
set_option maxRecDepth 100000 in
theorem copies_walk (s : ByteArray) (a : Option Addr) (n cn M : Nat) (fl : List (ByteArray × ByteArray)) (b1 b2 b3 : Option Addr) (m1 e1 m2 e2 m3 e3 : Nat) (xs1 xs2 xs3 : List Stp) (W : World) (hs : s.size ≤ 1048576) (hf : FilesAt W a n M fl) (hM : M ≤ 1048576) (hn : n ≤ 1048576) (hx1 : StepsAt W b1 m1 xs1) (hx2 : StepsAt W b2 m2 xs2) (hx3 : StepsAt W b3 m3 xs3)
    (hm1 : m1 ≤ 1048576) (hm2 : m2 ≤ 1048576) (hm3 : m3 ≤ 1048576) (ht1 : tot5 xs1 m1 ≤ 8388608) (ht2 : tot5 xs2 m2 ≤ 8388608) (ht3 : tot5 xs3 m3 ≤ 8388608) :
    Calls Try.prog 4 #[.agg #[.string s, .slice a n cn], .slice b1 m1 e1, .slice b2 m2 e2, .slice b3 m3 e3] W fun e w' => e = .returned (.bool true) ∧ Tn No W w' := by
  obtain ⟨W1, hW1⟩ : ∃ W1, W.alloc (.cells #[.string s, .slice a n cn] 24) = W1 := ⟨_, rfl⟩
  have t01 : Tn No W W1 := by rw [← hW1]; exact (Tn.refl No W).alloc _
  have z1 : W1.heap.size = W.heap.size + 1 := by rw [← hW1]; simp
  have b0 : W1.cell? ⟨W.heap.size, 0, none⟩ = some (.string s) := by rw [← hW1, World.cell?_alloc_new]; rfl
  have b1' : W1.cell? ⟨W.heap.size, 1, none⟩ = some (.slice a n cn) := by rw [← hW1, World.cell?_alloc_new]; rfl
  have HBX : Hid (∀ u, Tn No W1 u → u.cell? ⟨W.heap.size, 0, none⟩ = some (.string s) ∧ u.cell? ⟨W.heap.size, 1, none⟩ = some (.slice a n cn)) := hid (fun u t => ⟨(t.cell (by omega) (fun e => e)).trans b0, (t.cell (by omega) (fun e => e)).trans b1'⟩)
  have HNEW := hid (new_raw s a n cn M fl W1 (by unfold maxLen; omega) (hf.no t01) (by omega) (by omega))
  rw [← hW1] at HNEW
  have HRN : Hid (∀ u, Tn No W1 u → Calls Try.prog 10 #[.agg #[.string s, .slice a n cn]] u fun e u' => ∃ q, e = .returned (.pointer (some ⟨q, 0, none⟩)) ∧ ROwn u u' q (M + n) (initSt (filesOf fl) s)) := hid (fun u t => rnew_raw s a n cn M fl u (by unfold maxLen; omega) (hf.no (t01.then t)) (by omega))
  have HK := hid known_raw
  have HX1 := hid hx1
  have HX2 := hid hx2
  have HX3 := hid hx3
  have hW0 : W.heap.size < W1.heap.size := by omega
  have HW1 := hid hW1
  clear hf hx1 hx2 hx3 b0 b1' hW1
  go_enter Try.func4, Try.ntmps4
  go_wp2_with (first
    | (go_at_call 9; refine (HNEW.out).mono ?_; rintro e w4 ⟨p, rfl, hown⟩; rw [HW1.out] at hown; have t34 := hown.tn; have HOWN := hid hown; clear hown; obtain ⟨r0, r1⟩ := HBX.out w4 t34; have hW4 : W.heap.size < w4.heap.size := Nat.lt_of_lt_of_le hW0 t34.size)
    | (go_at_call 10; refine (HRN.out _ t34).mono ?_; rintro e w5 ⟨q, rfl, hrown⟩)
    | (go_at_call 11; refine (HK.out _).mono ?_; rintro e w6 ⟨rfl, t56⟩))
  have hI : Inv W1 w6 p q (M + n) (initSt (filesOf fl) s) := (inv_new HOWN.out hrown).no t56
  have hI0 : Inv W w6 p q (M + n) (initSt (filesOf fl) s) := by
    obtain ⟨t, X, hp, hX⟩ := hI
    exact ⟨t01.then t, X, hp, fun k hk => ⟨by have := (hX k hk).1; omega, (hX k hk).2⟩⟩
  have HI2 : Hid (Inv W w6 p q (M + n + tot5 xs1 0) (runs (initSt (filesOf fl) s) xs1 0)) := hid hI0
  have hft := ft_init (filesOf fl) s
  have hinp := inp_init (filesOf fl) s hs
  have hinp2 : (initSt (filesOf fl) s).inp.length ≤ 1099511627776 := by
    have e : (initSt (filesOf fl) s).inp.length = s.size := by simp [initSt]
    omega
  obtain ⟨S0, hS0⟩ : ∃ S0, initSt (filesOf fl) s = S0 := ⟨_, rfl⟩
  obtain ⟨N0, hN0⟩ : ∃ N0, M + n = N0 := ⟨_, rfl⟩
  have hN0b : N0 ≤ 2097152 := by omega
  rw [hS0] at HI2 hft hinp hinp2
  rw [hN0] at HI2
  have HFT := hid hft
  have HIN := hid hinp
  have HIN2 := hid hinp2
  clear hS0 hN0 hft hinp hinp2 hI hI0 hrown HOWN t56 t34 r0 r1 hW4 HNEW HRN HK HBX hW0 HW1 z1 t01
  go_loopw [11] (fun i wr => ∃ j : Nat, j ≤ m1 ∧ i = .int .i64 (j : Int) ∧ Inv W wr p q (N0 + tot5 xs1 j) (runs S0 xs1 j)) (fun i _ => m1 - (intOf i).toNat)
  case atStart => exact ⟨0, by omega, rfl, HI2.out⟩
  case round =>
    obtain ⟨j, hj, rfl, hI⟩ := hrel
    by_cases hlt : j < m1
    · obtain ⟨g, off, x, rfl, hgl, ⟨hjl, hx⟩, hok, y0, y1, y2, y3, y4⟩ := stp_cells HX1.out hI.1 j hlt
      have hts := tot5_succ xs1 j hjl
      have htl := tot5_le xs1 (j + 1)
      rw [HX1.out.len] at htl
      rw [hx] at hts
      have HD := hid (inv_does hI (ft_runs HFT.out xs1 j) (by rw [inp_runs]; exact HIN.out) x hok (by omega))
      rw [← hx, ← runs_succ S0 xs1 j hjl, hx] at HD
      rw [show N0 + tot5 xs1 j + 2 * x.text.size + 4 = N0 + tot5 xs1 (j + 1) by omega] at HD
      obtain ⟨kd, fd, nn, nm, tx⟩ := x
      have hji : (j : Int) < (m1 : Int) := by omega
      simp only [Stp.val] at HD y0 y1 y2 y3 y4
      clear hI hok hts htl hx HI2 HX1 HX2 HX3
      go_wp2_with (go_at_call 12; refine (HD.out).mono ?_; rintro e w7 ⟨rfl, hI7⟩)
      go_roundw
      case rel => exact ⟨j + 1, by omega, by go_num, hI7⟩
      case measure => simp [intOf]; omega
    · have hmj : ¬ (j : Int) < (m1 : Int) := by omega
      have htl := tot5_le xs1 j
      rw [HX1.out.len] at htl
      obtain ⟨N1, hN1⟩ : ∃ N1, N0 + tot5 xs1 j = N1 := ⟨_, rfl⟩
      have hf1 := ft_runs HFT.out xs1 j
      have hin1 : (runs S0 xs1 j).inp.length ≤ 1099511627776 := by rw [inp_runs]; exact HIN2.out
      obtain ⟨S1, hS1⟩ : ∃ S1, runs S0 xs1 j = S1 := ⟨_, rfl⟩
      rw [hN1, hS1] at hI
      rw [hS1] at hf1 hin1
      have hN1b : N1 ≤ 10485760 := by omega
      have HC := hid (inv_copy hI (by omega) hin1)
      have HF1 := hid hf1
      have HIN1 := hid hin1
      clear hI hf1 hin1 htl hN1 hS1 HX1 HI2 HFT HIN HIN2 ht1
      go_wp2_with (first
        | (go_at_call 14; refine (HC.out).mono ?_; rintro e u1 ⟨c, rfl, t1, hrc⟩; have HRC := hid hrc; clear hrc)
        | (go_at_call 15; refine (HRC.out).mono ?_; rintro e u2 ⟨sq, rfl, htwo⟩))
      have HT0 : Hid (Two W u2 p q (N1 + tot5 xs2 0) (runs S1 xs2 0) c sq (3 * N1 + tot5 xs3 0) (runs S1 xs3 0)) := hid htwo
      have hin1' : S1.inp.length ≤ 9223372036854775806 := by have := HIN1.out; omega
      have HIN := hid hin1'
      clear htwo HC HRC t1 HIN1 hin1' hmj
      obtain ⟨mm, hmm⟩ : ∃ mm, max m2 m3 = mm := ⟨_, rfl⟩
      have hmm2 : m2 ≤ mm := by omega
      have hmm3 : m3 ≤ mm := by omega
      have hmm4 : mm = m2 ∨ mm = m3 := by omega
      clear hmm
      go_loopw [14] (fun i wr => ∃ j : Nat, j ≤ mm ∧ i = .int .i64 (j : Int) ∧ Two W wr p q (N1 + tot5 xs2 j) (runs S1 xs2 j) c sq (3 * N1 + tot5 xs3 j) (runs S1 xs3 j)) (fun i _ => mm - (intOf i).toNat)
      case atStart => exact ⟨0, by omega, rfl, HT0.out⟩
      case round =>
        obtain ⟨i, hi, rfl, hI⟩ := hrel
        have hb3 : 3 * N1 ≤ 40000000 := by omega
        have hb1 : N1 ≤ 40000000 := by omega
        by_cases hl2 : i < m2
        · have hii2 : (i : Int) < (m2 : Int) := by omega
          obtain ⟨g, off, x, rfl, hgl, y0, y1, y2, y3, y4, hd⟩ := two_next HX2.out i hl2 HF1.out HIN.out hb1 ht2 hI
          have HD := hid hd
          by_cases hl3 : i < m3
          · have hii3 : (i : Int) < (m3 : Int) := by omega
            have HD3 := hid (fun u (hu : Two W u p q (N1 + tot5 xs2 (i + 1)) (runs S1 xs2 (i + 1)) c sq (3 * N1 + tot5 xs3 i) (runs S1 xs3 i)) => two_next HX3.out i hl3 HF1.out HIN.out hb3 ht3 hu.swap)
            obtain ⟨g3, off3, hb3⟩ : ∃ g3 off3, b3 = some ⟨g3, off3, none⟩ := by
              obtain ⟨g3, off3, _, hb3, _⟩ := two_next HX3.out i hl3 HF1.out HIN.out hb3 ht3 hI.swap
              exact ⟨g3, off3, hb3⟩
            subst hb3
            obtain ⟨kd, fd, nn, nm, tx⟩ := x
            simp only [Stp.val] at HD y0 y1 y2 y3 y4
            clear hI hd HT0 HX2 HX3
            go_wp2_with (first
              | (go_at_call_of 12 (Value.pointer (some ⟨p, 0, none⟩)); refine (HD.out).mono ?_; rintro e w7 ⟨rfl, hI7⟩; obtain ⟨g4, off4, x4, hb4, hgl4, v0, v1, v2, v3, v4, hd4⟩ := HD3.out w7 hI7; cases hb4; obtain ⟨kd4, fd4, nn4, nm4, tx4⟩ := x4; simp only [Stp.val] at hd4 v0 v1 v2 v3 v4; have HD4 := hid hd4; clear hd4)
              | (go_at_call_of 12 (Value.pointer (some ⟨c, 0, none⟩)); refine (HD4.out).mono ?_; rintro e w8 ⟨rfl, hI8⟩))
            go_roundw
            case rel => exact ⟨i + 1, by omega, by go_num, hI8.swap⟩
            case measure => simp [intOf]; omega
          · have hii3 : ¬ (i : Int) < (m3 : Int) := by omega
            have e3 := tot5_stay xs3 i (by rw [HX3.out.len]; omega)
            have e4 := runs_stay S1 xs3 i (by rw [HX3.out.len]; omega)
            obtain ⟨kd, fd, nn, nm, tx⟩ := x
            simp only [Stp.val] at HD y0 y1 y2 y3 y4
            rw [← e3, ← e4] at HD
            clear hI hd HT0 HX2 HX3 e3 e4
            go_wp2_with (go_at_call 12; refine (HD.out).mono ?_; rintro e w7 ⟨rfl, hI7⟩)
            go_roundw
            case rel => exact ⟨i + 1, by omega, by go_num, hI7⟩
            case measure => simp [intOf]; omega
        · have hii2 : ¬ (i : Int) < (m2 : Int) := by omega
          by_cases hl3 : i < m3
          · have hii3 : (i : Int) < (m3 : Int) := by omega
            obtain ⟨g, off, x, rfl, hgl, y0, y1, y2, y3, y4, hd⟩ := two_next HX3.out i hl3 HF1.out HIN.out hb3 ht3 hI.swap
            have HD := hid hd
            have e3 := tot5_stay xs2 i (by rw [HX2.out.len]; omega)
            have e4 := runs_stay S1 xs2 i (by rw [HX2.out.len]; omega)
            obtain ⟨kd, fd, nn, nm, tx⟩ := x
            simp only [Stp.val] at HD y0 y1 y2 y3 y4
            rw [← e3, ← e4] at HD
            clear hI hd HT0 HX2 HX3 e3 e4
            go_wp2_with (go_at_call 12; refine (HD.out).mono ?_; rintro e w7 ⟨rfl, hI7⟩)
            go_roundw
            case rel => exact ⟨i + 1, by omega, by go_num, hI7.swap⟩
            case measure => simp [intOf]; omega
          · have hii3 : ¬ (i : Int) < (m3 : Int) := by omega
            have htl2 := tot5_le xs2 i
            have htl3 := tot5_le xs3 i
            rw [HX2.out.len] at htl2
            rw [HX3.out.len] at htl3
            have HW := hid (fun u (hu : Two W u p q (N1 + tot5 xs2 i) (runs S1 xs2 i) c sq (3 * N1 + tot5 xs3 i) (runs S1 xs3 i)) => two_whole hu (by omega))
            have HV := hid (fun u (hu : Two W u p q (N1 + tot5 xs2 i) (runs S1 xs2 i) c sq (3 * N1 + tot5 xs3 i) (runs S1 xs3 i)) => two_whole hu.swap (by omega))
            have HI := hid hI
            clear hI HT0 HX2 HX3 htl2 htl3
            go_wp2_with (first
              | (go_at_call_of 13 (Value.pointer (some ⟨p, 0, none⟩)); refine (HW.out _ HI.out).mono ?_; rintro e w7 ⟨rfl, hI7⟩)
              | (go_at_call_of 13 (Value.pointer (some ⟨c, 0, none⟩)); refine (HV.out _ hI7).mono ?_; rintro e w8 ⟨rfl, hI8⟩))
            go_ret
            exact ⟨rfl, hI8.1⟩
end Go.Proofs.Ytkbdgdcicflocaa
