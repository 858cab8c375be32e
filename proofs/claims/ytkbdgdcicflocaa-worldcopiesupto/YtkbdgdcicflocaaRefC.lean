/-
  The reference's SysOpen, where it refuses.
-/
import Derived.Test.YtkbdgdcicflocaaRefB
namespace Go.Proofs.Ytkbdgdcicflocaa
set_option linter.unusedSimpArgs false
set_option linter.unusedVariables false
open Go.RowKit
attribute [local go_sem ↓] Go.wp_at_zero Go.wp_at_succ

set_option maxHeartbeats 4000000 in
set_option maxRecDepth 100000 in
theorem ropen_no (w : World) (q : Nat) (L : Nat → Option Lab) (N : Nat) (S : St) (h : PR w q L N S) (nm : ByteArray) (fg : Int) (hs : nm.size ≤ maxLen) (hN : N ≤ 1099511627776) (hneg : openRes S nm fg < 0) :
    Calls Try.prog 34 #[.pointer (some ⟨q, 0, none⟩), .string nm, .int .i64 fg] w (ROpenPost w q L N S nm fg) := by
  obtain ⟨fl, d, lv, tv, bv, hx⟩ := h
  have HZ := hid (fun u => zero_raw nm u hs)
  have HF := hid (find_raw w q L N S fl d lv tv bv hx nm hN)
  have hfh := findAt_has hx.fs nm
  have hend : ∀ u r, Tn No w u → openRes S nm fg = r → ROpenPost w q L N S nm fg (.returned (.int .i64 r)) u := fun u r t hr => by
    refine ⟨by rw [hr], ?_⟩
    unfold openSt
    rw [if_pos hneg]
    exact (PR.same ⟨_, _, _, _, _, hx⟩ t).mono (by omega)
  have HE := hid hend
  have k2 := hx.c2
  have hdc : ∀ i, i < 19 → w.cell? ⟨d, i * 3, none⟩ = some (.int .i64 (S.ds i).kind) := fun i hi => (hx.dc i hi).1
  have HDC := hid hdc
  have HFH := hid hfh
  have HNEG := hid hneg
  have hdl := hx.dlt
  obtain ⟨z, hz⟩ : ∃ z, zb nm.data.toList = z := ⟨_, rfl⟩
  obtain ⟨f, hf⟩ : ∃ f, findAt fl nm = f := ⟨_, rfl⟩
  rw [hz] at HZ
  rw [hf] at HF HFH
  have HZZ := hid hz
  unfold maxLen at hs
  have hs63 : (nm.size : Int) ≤ 9223372036854775807 := by omega
  clear hend hdc hx hneg hz hf hfh hs
  go_enter Try.func34, Try.ntmps34
  go_wp2_with (first
    | (go_at_call 58; refine (HZ.out _).mono ?_; rintro e w1 ⟨rfl, rfl⟩)
    | (go_at_call 30; refine HF.out.mono ?_; rintro e w2 ⟨rfl, rfl⟩))
  go_loop [9] (fun i => ∃ k : Nat, k ≤ 19 ∧ i = .int .i64 (k : Int) ∧ Hid (∀ j, j < k → ¬ (S.ds j).kind = 0)) (fun i => 19 - (intOf i).toNat)
  case atStart => exact ⟨0, by omega, rfl, hid (fun j h => by omega)⟩
  case round =>
    obtain ⟨k, hk, rfl, HP⟩ := hrel
    by_cases hgo : k < 19 ∧ ¬ (S.ds k).kind = 0
    · obtain ⟨hlt, hne⟩ := hgo
      have q0 := HDC.out k hlt
      have hd : ((S.ds k).kind != 0) = true := by simpa using hne
      have hki : (k : Int) < 19 := by omega
      have HNE := hid hne
      clear hne
      go_wp2
      go_round
      case rel => exact ⟨k + 1, by omega, by go_num, hid (fun j h => by
        by_cases e : j = k
        · subst e; exact HNE.out
        · exact HP.out j (by omega))⟩
      case measure => simp [intOf]; omega
    · have hfree : (k = 19 ∧ S.free = none) ∨ (k < 19 ∧ (S.ds k).kind = 0 ∧ S.free = some k) := by
        rcases Nat.lt_or_ge k 19 with h | h
        · have h0 : (S.ds k).kind = 0 := Classical.byContradiction (fun e => hgo ⟨h, e⟩)
          exact .inr ⟨h, h0, free_some S k h HP.out h0⟩
        · exact .inl ⟨by omega, free_none S (fun j hj => HP.out j (by omega))⟩
      have hex : Hid (255 < nm.size ∨ (¬ 255 < nm.size ∧ ¬ fg = 0 ∧ ¬ fg = 577) ∨ (¬ 255 < nm.size ∧ (fg = 0 ∨ fg = 577) ∧ z = true) ∨ (¬ 255 < nm.size ∧ (fg = 0 ∨ fg = 577) ∧ z = false ∧ nm.size = 0) ∨ (¬ 255 < nm.size ∧ fg = 0 ∧ z = false ∧ ¬ nm.size = 0 ∧ f < 0) ∨ (¬ 255 < nm.size ∧ (fg = 0 ∨ fg = 577) ∧ z = false ∧ ¬ nm.size = 0 ∧ ¬ (fg = 0 ∧ f < 0) ∧ S.free = none)) := by
        have hneg := HNEG.out
        by_cases a1 : 255 < nm.size
        · exact .inl a1
        by_cases a2 : fg = 0 ∨ fg = 577
        · cases z with
          | true => exact .inr (.inr (.inl ⟨a1, a2, rfl⟩))
          | false =>
            by_cases a3 : nm.size = 0
            · exact .inr (.inr (.inr (.inl ⟨a1, a2, rfl, a3⟩)))
            by_cases a4 : fg = 0 ∧ f < 0
            · exact .inr (.inr (.inr (.inr (.inl ⟨a1, a4.1, rfl, a3, a4.2⟩))))
            · refine .inr (.inr (.inr (.inr (.inr ⟨a1, a2, rfl, a3, a4, ?_⟩))))
              unfold openRes at hneg
              rw [if_neg a1, if_neg (by rw [HZZ.out]; simp; omega), if_neg (by rintro (h | ⟨h1, h2⟩); exact a3 h; exact a4 ⟨h1, HFH.out.2 h2⟩)] at hneg
              cases hh : S.free with
              | none => rfl
              | some k' => rw [hh] at hneg; simp at hneg; omega
        · exact .inr (.inl ⟨a1, fun e => a2 (.inl e), fun e => a2 (.inr e)⟩)
      have HX := hex
      rcases hfree with ⟨rfl, hfr⟩ | ⟨hlt, hk0, hfr⟩
      · rcases HX.out with a1 | ⟨a1, a2, a3⟩ | ⟨a1, rfl | rfl, rfl⟩ | ⟨a1, rfl | rfl, rfl, a4⟩ | ⟨a1, rfl, rfl, a4, a5⟩ | ⟨a1, a2, a3, a4, a5, a6⟩
        · have g1 : 255 < (nm.size : Int) := by omega
          have HR := hid (show openRes S nm fg = -36 from by unfold openRes; rw [if_pos a1])
          clear hex HX HNEG HFH HZZ
          go_wp2
          all_goals go_ret
          all_goals exact HE.out _ (-36) (by repeat (first | exact Tn.refl _ _ | apply Tn.drew | apply Tn.drewN | apply Tn.alloc | (refine Tn.then ?_ (by assumption)) | (refine Tn.thenNo ?_ (by assumption)))) HR.out
        · have g1 : (nm.size : Int) ≤ 255 := by omega
          have g2 : (fg != 0) = true := by simpa using a2
          have g3 : (fg != 577) = true := by simpa using a3
          have HR := hid (show openRes S nm fg = -22 from by unfold openRes; rw [if_neg a1, if_pos (.inl ⟨a2, a3⟩)])
          clear hex HX HNEG HFH HZZ
          go_wp2
          all_goals go_ret
          all_goals exact HE.out _ (-22) (by repeat (first | exact Tn.refl _ _ | apply Tn.drew | apply Tn.drewN | apply Tn.alloc | (refine Tn.then ?_ (by assumption)) | (refine Tn.thenNo ?_ (by assumption)))) HR.out
        · have g1 : (nm.size : Int) ≤ 255 := by omega
          have HR := hid (show openRes S nm (0 : Int) = -22 from by unfold openRes; rw [if_neg a1, if_pos (.inr HZZ.out)])
          clear hex HX HNEG HFH HZZ
          go_wp2
          all_goals go_ret
          all_goals exact HE.out _ (-22) (by repeat (first | exact Tn.refl _ _ | apply Tn.drew | apply Tn.drewN | apply Tn.alloc | (refine Tn.then ?_ (by assumption)) | (refine Tn.thenNo ?_ (by assumption)))) HR.out
        · have g1 : (nm.size : Int) ≤ 255 := by omega
          have HR := hid (show openRes S nm (577 : Int) = -22 from by unfold openRes; rw [if_neg a1, if_pos (.inr HZZ.out)])
          clear hex HX HNEG HFH HZZ
          go_wp2
          all_goals go_ret
          all_goals exact HE.out _ (-22) (by repeat (first | exact Tn.refl _ _ | apply Tn.drew | apply Tn.drewN | apply Tn.alloc | (refine Tn.then ?_ (by assumption)) | (refine Tn.thenNo ?_ (by assumption)))) HR.out
        · have g1 : (nm.size : Int) ≤ 255 := by omega
          have g4 : nm.toList.isEmpty = true := by rw [toList_isEmpty]; simpa using a4
          have HR := hid (show openRes S nm (0 : Int) = -2 from by unfold openRes; rw [if_neg a1, if_neg (by rw [HZZ.out]; simp), if_pos (.inl a4)])
          clear hex HX HNEG HFH HZZ
          go_wp2
          all_goals go_ret
          all_goals exact HE.out _ (-2) (by repeat (first | exact Tn.refl _ _ | apply Tn.drew | apply Tn.drewN | apply Tn.alloc | (refine Tn.then ?_ (by assumption)) | (refine Tn.thenNo ?_ (by assumption)))) HR.out
        · have g1 : (nm.size : Int) ≤ 255 := by omega
          have g4 : nm.toList.isEmpty = true := by rw [toList_isEmpty]; simpa using a4
          have HR := hid (show openRes S nm (577 : Int) = -2 from by unfold openRes; rw [if_neg a1, if_neg (by rw [HZZ.out]; simp), if_pos (.inl a4)])
          clear hex HX HNEG HFH HZZ
          go_wp2
          all_goals go_ret
          all_goals exact HE.out _ (-2) (by repeat (first | exact Tn.refl _ _ | apply Tn.drew | apply Tn.drewN | apply Tn.alloc | (refine Tn.then ?_ (by assumption)) | (refine Tn.thenNo ?_ (by assumption)))) HR.out
        · have g1 : (nm.size : Int) ≤ 255 := by omega
          have g4 : nm.toList.isEmpty = false := by rw [toList_isEmpty]; simpa using a4
          have g5 : f < 0 := a5
          have HR := hid (show openRes S nm (0 : Int) = -2 from by unfold openRes; rw [if_neg a1, if_neg (by rw [HZZ.out]; simp), if_pos (.inr ⟨rfl, HFH.out.1 a5⟩)])
          clear hex HX HNEG HFH HZZ
          go_wp2
          all_goals go_ret
          all_goals exact HE.out _ (-2) (by repeat (first | exact Tn.refl _ _ | apply Tn.drew | apply Tn.drewN | apply Tn.alloc | (refine Tn.then ?_ (by assumption)) | (refine Tn.thenNo ?_ (by assumption)))) HR.out
        · have g1 : (nm.size : Int) ≤ 255 := by omega
          have g4 : nm.toList.isEmpty = false := by rw [toList_isEmpty]; simpa using a4
          subst a3
          rcases a2 with rfl | rfl
          · have g5 : 0 ≤ f := by omega
            have HR := hid (show openRes S nm (0 : Int) = -24 from by unfold openRes; rw [if_neg a1, if_neg (by rw [HZZ.out]; simp), if_neg (by rintro (h | ⟨h1, h2⟩); exact a4 h; exact a5 ⟨h1, HFH.out.2 h2⟩), hfr])
            clear hex HX HNEG HFH HZZ a5
            go_wp2
            all_goals go_ret
            all_goals exact HE.out _ (-24) (by repeat (first | exact Tn.refl _ _ | apply Tn.drew | apply Tn.drewN | apply Tn.alloc | (refine Tn.then ?_ (by assumption)) | (refine Tn.thenNo ?_ (by assumption)))) HR.out
          · have HR := hid (show openRes S nm (577 : Int) = -24 from by unfold openRes; rw [if_neg a1, if_neg (by rw [HZZ.out]; simp), if_neg (by rintro (h | ⟨h1, h2⟩); exact a4 h; omega), hfr])
            clear hex HX HNEG HFH HZZ a5
            go_wp2
            all_goals go_ret
            all_goals exact HE.out _ (-24) (by repeat (first | exact Tn.refl _ _ | apply Tn.drew | apply Tn.drewN | apply Tn.alloc | (refine Tn.then ?_ (by assumption)) | (refine Tn.thenNo ?_ (by assumption)))) HR.out
      · have q0 := HDC.out k hlt
        rw [hk0] at q0
        have hki : (k : Int) < 19 := by omega
        rcases HX.out with a1 | ⟨a1, a2, a3⟩ | ⟨a1, rfl | rfl, rfl⟩ | ⟨a1, rfl | rfl, rfl, a4⟩ | ⟨a1, rfl, rfl, a4, a5⟩ | ⟨a1, a2, a3, a4, a5, a6⟩
        · have g1 : 255 < (nm.size : Int) := by omega
          have HR := hid (show openRes S nm fg = -36 from by unfold openRes; rw [if_pos a1])
          clear hex HX HNEG HFH HZZ
          go_wp2
          all_goals go_ret
          all_goals exact HE.out _ (-36) (by repeat (first | exact Tn.refl _ _ | apply Tn.drew | apply Tn.drewN | apply Tn.alloc | (refine Tn.then ?_ (by assumption)) | (refine Tn.thenNo ?_ (by assumption)))) HR.out
        · have g1 : (nm.size : Int) ≤ 255 := by omega
          have g2 : (fg != 0) = true := by simpa using a2
          have g3 : (fg != 577) = true := by simpa using a3
          have HR := hid (show openRes S nm fg = -22 from by unfold openRes; rw [if_neg a1, if_pos (.inl ⟨a2, a3⟩)])
          clear hex HX HNEG HFH HZZ
          go_wp2
          all_goals go_ret
          all_goals exact HE.out _ (-22) (by repeat (first | exact Tn.refl _ _ | apply Tn.drew | apply Tn.drewN | apply Tn.alloc | (refine Tn.then ?_ (by assumption)) | (refine Tn.thenNo ?_ (by assumption)))) HR.out
        · have g1 : (nm.size : Int) ≤ 255 := by omega
          have HR := hid (show openRes S nm (0 : Int) = -22 from by unfold openRes; rw [if_neg a1, if_pos (.inr HZZ.out)])
          clear hex HX HNEG HFH HZZ
          go_wp2
          all_goals go_ret
          all_goals exact HE.out _ (-22) (by repeat (first | exact Tn.refl _ _ | apply Tn.drew | apply Tn.drewN | apply Tn.alloc | (refine Tn.then ?_ (by assumption)) | (refine Tn.thenNo ?_ (by assumption)))) HR.out
        · have g1 : (nm.size : Int) ≤ 255 := by omega
          have HR := hid (show openRes S nm (577 : Int) = -22 from by unfold openRes; rw [if_neg a1, if_pos (.inr HZZ.out)])
          clear hex HX HNEG HFH HZZ
          go_wp2
          all_goals go_ret
          all_goals exact HE.out _ (-22) (by repeat (first | exact Tn.refl _ _ | apply Tn.drew | apply Tn.drewN | apply Tn.alloc | (refine Tn.then ?_ (by assumption)) | (refine Tn.thenNo ?_ (by assumption)))) HR.out
        · have g1 : (nm.size : Int) ≤ 255 := by omega
          have g4 : nm.toList.isEmpty = true := by rw [toList_isEmpty]; simpa using a4
          have HR := hid (show openRes S nm (0 : Int) = -2 from by unfold openRes; rw [if_neg a1, if_neg (by rw [HZZ.out]; simp), if_pos (.inl a4)])
          clear hex HX HNEG HFH HZZ
          go_wp2
          all_goals go_ret
          all_goals exact HE.out _ (-2) (by repeat (first | exact Tn.refl _ _ | apply Tn.drew | apply Tn.drewN | apply Tn.alloc | (refine Tn.then ?_ (by assumption)) | (refine Tn.thenNo ?_ (by assumption)))) HR.out
        · have g1 : (nm.size : Int) ≤ 255 := by omega
          have g4 : nm.toList.isEmpty = true := by rw [toList_isEmpty]; simpa using a4
          have HR := hid (show openRes S nm (577 : Int) = -2 from by unfold openRes; rw [if_neg a1, if_neg (by rw [HZZ.out]; simp), if_pos (.inl a4)])
          clear hex HX HNEG HFH HZZ
          go_wp2
          all_goals go_ret
          all_goals exact HE.out _ (-2) (by repeat (first | exact Tn.refl _ _ | apply Tn.drew | apply Tn.drewN | apply Tn.alloc | (refine Tn.then ?_ (by assumption)) | (refine Tn.thenNo ?_ (by assumption)))) HR.out
        · have g1 : (nm.size : Int) ≤ 255 := by omega
          have g4 : nm.toList.isEmpty = false := by rw [toList_isEmpty]; simpa using a4
          have g5 : f < 0 := a5
          have HR := hid (show openRes S nm (0 : Int) = -2 from by unfold openRes; rw [if_neg a1, if_neg (by rw [HZZ.out]; simp), if_pos (.inr ⟨rfl, HFH.out.1 a5⟩)])
          clear hex HX HNEG HFH HZZ
          go_wp2
          all_goals go_ret
          all_goals exact HE.out _ (-2) (by repeat (first | exact Tn.refl _ _ | apply Tn.drew | apply Tn.drewN | apply Tn.alloc | (refine Tn.then ?_ (by assumption)) | (refine Tn.thenNo ?_ (by assumption)))) HR.out
        · rw [hfr] at a6; cases a6
end Go.Proofs.Ytkbdgdcicflocaa
namespace Go.Proofs.Ytkbdgdcicflocaa
set_option linter.unusedSimpArgs false
set_option linter.unusedVariables false
open Go.RowKit
attribute [local go_sem ↓] Go.wp_at_zero Go.wp_at_succ

set_option maxHeartbeats 4000000 in
set_option maxRecDepth 100000 in
theorem ropen_rd (w : World) (q : Nat) (L : Nat → Option Lab) (N : Nat) (S : St) (h : PR w q L N S) (nm : ByteArray) (hs : nm.size ≤ maxLen) (hN : N ≤ 1099511627776) (r : Nat) (hres : openRes S nm 0 = (r : Int)) :
    Calls Try.prog 34 #[.pointer (some ⟨q, 0, none⟩), .string nm, .int .i64 0] w (ROpenPost w q L N S nm 0) := by
  obtain ⟨fl, d, lv, tv, bv, hx⟩ := h
  have HZ := hid (fun u => zero_raw nm u hs)
  have HF := hid (find_raw w q L N S fl d lv tv bv hx nm hN)
  have hfh := findAt_has hx.fs nm
  have hparts : ¬ 255 < nm.size ∧ zb nm.data.toList = false ∧ ¬ nm.size = 0 ∧ ¬ findAt fl nm < 0 ∧ S.free = some r := by
    unfold openRes at hres
    by_cases a1 : 255 < nm.size
    · rw [if_pos a1] at hres; omega
    rw [if_neg a1] at hres
    cases a2 : zb nm.data.toList with
    | true => rw [if_pos (.inr a2)] at hres; omega
    | false =>
      rw [if_neg (by rw [a2]; simp)] at hres
      by_cases a3 : nm.size = 0 ∨ ((0 : Int) = 0 ∧ S.has nm = false)
      · rw [if_pos a3] at hres; omega
      · rw [if_neg a3] at hres
        cases hh : S.free with
        | none => rw [hh] at hres; simp at hres
        | some k =>
          rw [hh] at hres
          have hk : (k : Int) = (r : Int) := hres
          have hk2 : k = r := by omega
          exact ⟨a1, rfl, fun e => a3 (.inl e), fun e => a3 (.inr ⟨rfl, hfh.1 e⟩), by rw [hk2]⟩
  obtain ⟨a1, hz, a3, a4, hfree⟩ := hparts
  have hend : ∀ u, r < 19 → Tn No (rset3 w d r ⟨4, nm, 0⟩) u → ROpenPost w q L N S nm 0 (.returned (.int .i64 (r : Int))) u := fun u hr t => by
    refine ⟨by rw [hres], ?_⟩
    unfold openSt
    rw [hres, if_neg (by omega), if_pos rfl, Int.toNat_natCast]
    exact (RLft.no ⟨L, ⟨_, _, _, _, _, hx.setDe r hr ⟨4, nm, 0⟩ (Nat.zero_le _) (by show nm.size ≤ 255; omega)⟩, rset3_tn (Tn.refl _ _) hx.labd r _, fun _ _ e => e⟩ t).mono (by omega)
  have HE := hid hend
  have hdz := hx.dz
  have hdc3 : ∀ i, i < 19 → w.cell? ⟨d, i * 3 + 1, none⟩ = some (.string (S.ds i).name) ∧ w.cell? ⟨d, i * 3 + 2, none⟩ = some (.int .i64 ((S.ds i).place : Int)) := fun i hi => (hx.dc i hi).2
  have HDC3 := hid hdc3
  have HFREE := hid hfree
  have k2 := hx.c2
  have hdc : ∀ i, i < 19 → w.cell? ⟨d, i * 3, none⟩ = some (.int .i64 (S.ds i).kind) := fun i hi => (hx.dc i hi).1
  have HDC := hid hdc
  have hdl := hx.dlt
  obtain ⟨f, hf⟩ : ∃ f, findAt fl nm = f := ⟨_, rfl⟩
  rw [hz] at HZ
  rw [hf] at HF a4
  unfold maxLen at hs
  have hs63 : (nm.size : Int) ≤ 9223372036854775807 := by omega
  have g1 : (nm.size : Int) ≤ 255 := by omega
  have g4 : nm.toList.isEmpty = false := by rw [toList_isEmpty]; simpa using a3
  have g5 : 0 ≤ f := by omega
  clear hend hdc hdc3 hx hz hf hfh hs a1 a3 a4 hres hfree
  go_enter Try.func34, Try.ntmps34
  go_wp2_with (first
    | (go_at_call 58; refine (HZ.out _).mono ?_; rintro e w1 ⟨rfl, rfl⟩)
    | (go_at_call 30; refine HF.out.mono ?_; rintro e w2 ⟨rfl, rfl⟩))
  go_loop [9] (fun i => ∃ k : Nat, k ≤ 19 ∧ i = .int .i64 (k : Int) ∧ Hid (∀ j, j < k → ¬ (S.ds j).kind = 0)) (fun i => 19 - (intOf i).toNat)
  case atStart => exact ⟨0, by omega, rfl, hid (fun j h => by omega)⟩
  case round =>
    obtain ⟨k, hk, rfl, HP⟩ := hrel
    by_cases hgo : k < 19 ∧ ¬ (S.ds k).kind = 0
    · obtain ⟨hlt, hne⟩ := hgo
      have q0 := HDC.out k hlt
      have hd : ((S.ds k).kind != 0) = true := by simpa using hne
      have hki : (k : Int) < 19 := by omega
      have HNE := hid hne
      clear hne
      go_wp2
      go_round
      case rel => exact ⟨k + 1, by omega, by go_num, hid (fun j h => by
        by_cases e : j = k
        · subst e; exact HNE.out
        · exact HP.out j (by omega))⟩
      case measure => simp [intOf]; omega
    · have hh : k < 19 ∧ (S.ds k).kind = 0 ∧ k = r := by
        rcases Nat.lt_or_ge k 19 with h | h
        · have h0 : (S.ds k).kind = 0 := Classical.byContradiction (fun e => hgo ⟨h, e⟩)
          have := free_some S k h HP.out h0
          rw [HFREE.out] at this
          exact ⟨h, h0, (Option.some.inj this).symm⟩
        · have := free_none S (fun j hj => HP.out j (by omega))
          rw [HFREE.out] at this
          cases this
      obtain ⟨hlt, hk0, rfl⟩ := hh
      have q0 := HDC.out k hlt
      rw [hk0] at q0
      obtain ⟨q1, q2⟩ := HDC3.out k hlt
      have hki : (k : Int) < 19 := by omega
      clear hgo
      unfold rset3 at HE
      go_wp2
      all_goals go_ret
      all_goals exact HE.out _ hlt (by repeat (first | exact Tn.refl _ _ | apply Tn.drew | apply Tn.drewN | apply Tn.alloc | (refine Tn.then ?_ (by assumption)) | (refine Tn.thenNo ?_ (by assumption))))
end Go.Proofs.Ytkbdgdcicflocaa
namespace Go.Proofs.Ytkbdgdcicflocaa
set_option linter.unusedSimpArgs false
set_option linter.unusedVariables false
open Go.RowKit
attribute [local go_sem ↓] Go.wp_at_zero Go.wp_at_succ

theorem lt_irrefl_list (l : List UInt8) : ¬ l < l := List.lt_irrefl l
theorem names_apart {fl : List (ByteArray × List UInt8)} (h : fl.Pairwise (fun a b => a.1.data.toList < b.1.data.toList)) {i j : Nat} (hi : i < fl.length) (hj : j < fl.length) (he : fl[i].1.data.toList = fl[j].1.data.toList) : i = j := by
  rw [List.pairwise_iff_getElem] at h
  rcases Nat.lt_trichotomy i j with k | k | k
  · have := h i j hi hj k; rw [he] at this; exact absurd this (lt_irrefl_list _)
  · exact k
  · have := h j i hj hi k; rw [he] at this; exact absurd this (lt_irrefl_list _)
theorem up_set {fl : List (ByteArray × List UInt8)} (h : fl.Pairwise (fun a b => a.1.data.toList < b.1.data.toList)) (i : Nat) (hi : i < fl.length) (l : List UInt8) : (fl.set i (fl[i].1, l)).Pairwise (fun a b => a.1.data.toList < b.1.data.toList) := by
  rw [List.pairwise_iff_getElem] at h ⊢
  have e : ∀ k (hk : k < (fl.set i (fl[i].1, l)).length), ((fl.set i (fl[i].1, l))[k]).1 = (fl[k]'(by simpa using hk)).1 := fun k hk => by
    rw [List.getElem_set]
    split
    · rename_i he; subst he; rfl
    · rfl
  intro a b ha hb hab
  rw [e, e]
  exact h a b _ _ hab
theorem fsOf_set {fl : List (ByteArray × List UInt8)} (h : fl.Pairwise (fun a b => a.1.data.toList < b.1.data.toList)) (i : Nat) (hi : i < fl.length) (l : List UInt8) : fsOf (fl.set i (fl[i].1, l)) = fun x => if x = fl[i].1.data.toList then some l else fsOf fl x := by
  funext x
  induction fl generalizing i with
  | nil => simp at hi
  | cons f r ih =>
    have hr := (List.pairwise_cons.1 h).2
    have hf := (List.pairwise_cons.1 h).1
    cases i with
    | zero =>
      simp only [List.set_cons_zero, List.getElem_cons_zero]
      unfold fsOf
      rw [List.find?_cons, List.find?_cons]
      by_cases hx : f.1.data.toList = x
      · rw [if_pos hx.symm]; simp [hx]
      · rw [if_neg (fun e => hx e.symm)]; simp [hx]
    | succ i =>
      have hi' : i < r.length := by simpa using hi
      have := ih hr i hi'
      simp only [List.set_cons_succ, List.getElem_cons_succ]
      unfold fsOf at this ⊢
      rw [List.find?_cons, List.find?_cons]
      by_cases hx : f.1.data.toList = x
      · have hne : ¬ x = (r[i]).1.data.toList := fun e => by
          have := hf r[i] (List.getElem_mem _)
          rw [hx, e] at this
          exact lt_irrefl_list _ this
        rw [if_neg hne]; simp [hx]
      · simp only [hx, decide_false]
        exact this

theorem RX.putFile {w w' : World} {q : Nat} {L L' : Nat → Option Lab} {N N' : Nat} {S : St} {fl : List (ByteArray × List UInt8)} {d : Dk} {lv tv : Value} {bv : Nat → Value} (h : RX w q L N S fl d lv tv bv) (i : Nat) (hi : i < fl.length) (b : Value) (l : List UInt8) (hN : N ≤ N') (hs : w.heap.size ≤ w'.heap.size)
    (hk : ∀ k, L k ≠ none → L k ≠ some (.fl fl[i].1.data.toList) → L k ≠ some .mp → w'.heap[k]? = w.heap[k]?) (hrow : RW w' 2 lv fl.length) (hcell : ∀ j, j < 2 * fl.length → vc w' lv j = if j = 2 * i + 1 then some b else vc w lv j)
    (up : ∀ k x, L k = some x → L' k = some x) (hlt : ∀ k, L' k ≠ none → k < w'.heap.size) (hbr : BR w' b l) (hlab : ∀ g, b.ownBlock = some g → L' g = some (.fl fl[i].1.data.toList)) (hl : l.length ≤ N') :
    RX w' q L' N' (S.put fl[i].1.data.toList l) (fl.set i (fl[i].1, l)) d lv tv (upd bv i b) := by
  have hk' : ∀ k x, L k = some x → x ≠ .mp → x ≠ .fl fl[i].1.data.toList → w'.heap[k]? = w.heap[k]? := fun k x e1 e2 e3 => hk k (by rw [e1]; simp) (by rw [e1]; intro e; cases e; exact e3 rfl) (by rw [e1]; intro e; cases e; exact e2 rfl)
  have hq := hk' q _ h.labs (by simp) (by simp)
  have hd := hk' d _ h.labd (by simp) (by simp)
  have cq : ∀ i, w'.cell? ⟨q, i, none⟩ = w.cell? ⟨q, i, none⟩ := fun i => World.cell?_of_block (w := w) (a := ⟨q, i, none⟩) hq
  have cd : ∀ i, w'.cell? ⟨d, i, none⟩ = w.cell? ⟨d, i, none⟩ := fun i => World.cell?_of_block (w := w) (a := ⟨d, i, none⟩) hd
  refine { qlt := Nat.lt_of_lt_of_le h.qlt hs, c0 := (cq 0).trans h.c0, c1 := (cq 1).trans h.c1, c2 := (cq 2).trans h.c2, c3 := (cq 3).trans h.c3, fz := fun j => ?_, labs := up _ _ h.labs, labd := up _ _ h.labd, dc := fun j hj => ?_, dz := fun j => ?_, pl := fun j hj => ⟨Nat.le_trans (h.pl j hj).1 hN, (h.pl j hj).2⟩, tr := h.tr.kept (fun g hg => hk' g _ (h.labt g hg) (by simp) (by simp)), labt := fun g hg => up _ _ (h.labt g hg), tlen := ⟨Nat.le_trans h.tlen.1 hN, fun e he => Nat.le_trans (h.tlen.2 e he) hN⟩, row := by rw [List.length_set]; exact hrow, labl := fun g hg => up _ _ (h.labl g hg), lc := fun j hj => ?_, len := by rw [List.length_set]; exact Nat.le_trans h.len hN, lt := hlt, fs := ?_, up := up_set h.up i hi l, rd := h.rd }
  · have := h.fz j
    simp only [World.frozen?, hq] at this ⊢
    exact this
  · obtain ⟨a, b, c⟩ := h.dc j hj
    exact ⟨(cd _).trans a, (cd _).trans b, (cd _).trans c⟩
  · have := h.dz j
    simp only [World.frozen?, hd] at this ⊢
    exact this
  · have hj' : j < fl.length := by simpa using hj
    obtain ⟨a1, a2, a3, a4, a5, a6⟩ := h.lc j hj'
    by_cases e : j = i
    · subst e
      have e1 : (fl.set j (fl[j].1, l))[j]'hj = (fl[j].1, l) := by rw [List.getElem_set]; simp
      rw [e1, upd_same]
      refine ⟨?_, ?_, hbr, hlab, hl, a6⟩
      · rw [hcell _ (by omega), if_neg (by omega)]; exact a1
      · rw [hcell _ (by omega), if_pos rfl]
    · have e1 : (fl.set i (fl[i].1, l))[j]'hj = fl[j] := by rw [List.getElem_set]; rw [if_neg (fun x => e x.symm)]
      rw [e1, upd_other _ _ e]
      have hne : ¬ fl[j].1.data.toList = fl[i].1.data.toList := fun x => e (names_apart h.up hj' hi x)
      refine ⟨?_, ?_, a3.kept (fun g hg => hk' g _ (a4 g hg) (by simp) (by intro x; simp only [Lab.fl.injEq] at x; exact hne x)), fun g hg => up _ _ (a4 g hg), Nat.le_trans a5 hN, a6⟩
      · rw [hcell _ (by omega), if_neg (by omega)]; exact a1
      · rw [hcell _ (by omega), if_neg (by omega)]; exact a2
  · show (fun x => if x = fl[i].1.data.toList then some l else S.fs x) = _
    rw [fsOf_set h.up i hi l, h.fs]
end Go.Proofs.Ytkbdgdcicflocaa
namespace Go.Proofs.Ytkbdgdcicflocaa
set_option linter.unusedSimpArgs false
set_option linter.unusedVariables false
open Go.RowKit
attribute [local go_sem ↓] Go.wp_at_zero Go.wp_at_succ

theorem findAt_get {fl : List (ByteArray × List UInt8)} {nm : ByteArray} {f : Int} (h : findAt fl nm = f) (h0 : 0 ≤ f) : ∃ (i : Nat) (hi : i < fl.length), f = (i : Int) ∧ fl[i].1 = nm := by
  unfold findAt at h
  cases hh : fl.findIdx? (fun f => decide (f.1 = nm)) with
  | none => rw [hh] at h; simp at h; omega
  | some i =>
    rw [hh] at h
    rw [List.findIdx?_eq_some_iff_getElem] at hh
    obtain ⟨hi, h1, _⟩ := hh
    exact ⟨i, hi, h.symm, by simpa using h1⟩
/-- what openRes says where it opens -/
theorem openRes_parts {S : St} {nm : ByteArray} {fl : Int} {r : Nat} (hres : openRes S nm fl = (r : Int)) (hfl : fl = 577) : ¬ 255 < nm.size ∧ zb nm.data.toList = false ∧ ¬ nm.size = 0 ∧ S.free = some r := by
  subst hfl
  unfold openRes at hres
  by_cases a1 : 255 < nm.size
  · rw [if_pos a1] at hres; omega
  rw [if_neg a1] at hres
  cases a2 : zb nm.data.toList with
  | true => rw [if_pos (.inr a2)] at hres; omega
  | false =>
    rw [if_neg (by rw [a2]; simp)] at hres
    by_cases a3 : nm.size = 0 ∨ ((577 : Int) = 0 ∧ S.has nm = false)
    · rw [if_pos a3] at hres; omega
    · rw [if_neg a3] at hres
      cases hh : S.free with
      | none => rw [hh] at hres; simp at hres
      | some k =>
        rw [hh] at hres
        have hk : (k : Int) = (r : Int) := hres
        have hk2 : k = r := by omega
        exact ⟨a1, rfl, fun e => a3 (.inl e), by rw [hk2]⟩
theorem RX.rowFree {w : World} {q : Nat} {L : Nat → Option Lab} {N : Nat} {S : St} {fl : List (ByteArray × List UInt8)} {d : Dk} {lv tv : Value} {bv : Nat → Value} (h : RX w q L N S fl d lv tv bv) (i : Nat) (hi : i < fl.length) : ∃ g cap, lv = .slice (some ⟨g, 0, none⟩) fl.length cap ∧ g < w.heap.size ∧ fl.length ≤ cap ∧ cap ≤ 9223372036854775807 ∧ (∀ j, j < fl.length * 2 → w.frozen? ⟨g, j, none⟩ = false) ∧ L g = some .mp ∧ g ≠ q ∧ g ≠ d := by
  obtain ⟨g, cap, hv, hg, h1, h2, h3⟩ := h.row.pos (by omega)
  have hl := h.labl g (by rw [hv]; rfl)
  exact ⟨g, cap, hv, hg, h1, h2, h3, hl, (fun e => by rw [e, h.labs] at hl; cases hl), (fun e => by rw [e, h.labd] at hl; cases hl)⟩

/-- the bytes of a file are struck -/
theorem RX.setNil {w : World} {q : Nat} {L : Nat → Option Lab} {N : Nat} {S : St} {fl : List (ByteArray × List UInt8)} {d : Dk} {tv : Value} {bv : Nat → Value} {g n cap : Nat} (h : RX w q L N S fl d (.slice (some ⟨g, 0, none⟩) n cap) tv bv) (hn : fl.length = n) (i : Nat) (hi : i < fl.length) :
    RX (w.setCell ⟨g, i * 2 + 1, none⟩ (.slice none 0 0)) q L N (S.put fl[i].1.data.toList []) (fl.set i (fl[i].1, [])) d (.slice (some ⟨g, 0, none⟩) n cap) tv (upd bv i (.slice none 0 0)) := by
  subst hn
  have hl := h.labl g rfl
  have hsz : (w.setCell ⟨g, i * 2 + 1, none⟩ (.slice none 0 0)).heap.size = w.heap.size := by simp
  have hrow := h.row
  have hcm : ∀ j, j < fl.length * 2 → (w.cell? ⟨g, j, none⟩).isSome = true := fun j hj => by
    rcases hrow with ⟨e, _⟩ | ⟨g', cap', e, _, h1, _, h3⟩
    · cases e
    · cases e; exact (h3 j (by omega)).1
  refine h.putFile i hi _ [] (Nat.le_refl _) (by rw [hsz]; exact Nat.le_refl _) (fun k h1 h2 h3 => Below.heap_setCell _ _ _ _ (fun e => by subst e; exact h3 hl)) ?_ (fun j hj => ?_) (fun k x e => e) (fun k hk => by rw [hsz]; exact h.lt k hk) (BR.nil _) (fun g' e => by cases e) (Nat.zero_le _)
  · rcases hrow with ⟨e, _⟩ | ⟨g', cap', e, hg, h1, h2, h3⟩
    · cases e
    · cases e
      refine .inr ⟨g, cap, rfl, by rw [hsz]; exact hg, h1, h2, fun j hj => ?_⟩
      rw [World.frozen?_setCell]
      refine ⟨?_, (h3 j hj).2⟩
      by_cases ej : j = i * 2 + 1
      · subst ej
        obtain ⟨u, hu⟩ := Option.isSome_iff_exists.1 (h3 _ hj).1
        rw [World.cell?_setCell_same _ _ _ hu]; rfl
      · rw [World.cell?_setCell_other _ _ _ _ (by intro x; cases x; exact ej rfl)]; exact (h3 j hj).1
  · show World.cell? _ _ = _
    by_cases ej : j = 2 * i + 1
    · subst ej
      rw [if_pos rfl]
      obtain ⟨u, hu⟩ := Option.isSome_iff_exists.1 (hcm (2 * i + 1) (by omega))
      rw [show 2 * i + 1 = i * 2 + 1 by omega] at hu ⊢
      exact World.cell?_setCell_same _ _ _ hu
    · rw [if_neg ej]
      exact World.cell?_setCell_other _ _ _ _ (by intro x; cases x; exact ej (by omega))

set_option maxHeartbeats 4000000 in
set_option maxRecDepth 100000 in
theorem ropen_old (w : World) (q : Nat) (L : Nat → Option Lab) (N : Nat) (S : St) (h : PR w q L N S) (nm : ByteArray) (hs : nm.size ≤ maxLen) (hN : N + 1 ≤ 1099511627776) (r : Nat) (hres : openRes S nm 577 = (r : Int)) (hhas : S.has nm = true) :
    Calls Try.prog 34 #[.pointer (some ⟨q, 0, none⟩), .string nm, .int .i64 577] w (ROpenPost w q L N S nm 577) := by
  obtain ⟨fl, d, lv, tv, bv, hx⟩ := h
  have HZ := hid (fun u => zero_raw nm u hs)
  have HF := hid (find_raw w q L N S fl d lv tv bv hx nm (by omega))
  have hfh := findAt_has hx.fs nm
  obtain ⟨a1, hz, a3, hfree⟩ := openRes_parts hres rfl
  obtain ⟨f, hf⟩ : ∃ f, findAt fl nm = f := ⟨_, rfl⟩
  have h0f : 0 ≤ f := by
    rcases Int.lt_or_le f 0 with h | h
    · rw [← hf] at h; have := hfh.1 h; rw [hhas] at this; cases this
    · exact h
  obtain ⟨i, hi, rfl, hnm⟩ := findAt_get hf h0f
  obtain ⟨g, cap, rfl, hgl, hlc, hcm, hfz, hlab, hgq, hgd⟩ := hx.rowFree i hi
  obtain ⟨n, hn⟩ : ∃ n, fl.length = n := ⟨_, rfl⟩
  have hr19 : r < 19 := by
    have := List.mem_of_find?_eq_some hfree
    simpa using this
  have hqd : q ≠ d := fun e => by have := hx.labs; rw [e, hx.labd] at this; cases this
  -- the descriptor, then the bytes
  have hx1 := hx.setDe r hr19 ⟨5, nm, 0⟩ (Nat.zero_le _) (by show nm.size ≤ 255; omega)
  have hdl := hx.dlt
  have hdz := hx.dz
  have t1 : Tn (fun k => L k ≠ none) w (rset3 w d r ⟨5, nm, 0⟩) := rset3_tn (Tn.refl _ _) hx.labd r _
  rw [hn] at hx hx1 hlc hfz
  have hx2 := hx1.setNil hn i hi
  rw [hnm] at hx2
  obtain ⟨v', w4, hr, ⟨va, vn, vcp, hv'⟩, k3', f3', q4, hend⟩ := hx2.addEv hN 3 nm []
  subst hv'
  have hpost : ∀ u, Tn No (w4.setCell ⟨q, 3, none⟩ (.slice va vn vcp)) u → ROpenPost w q L N S nm 577 (.returned (.int .i64 (r : Int))) u := fun u t => by
    refine ⟨by rw [hres], ?_⟩
    unfold openSt
    rw [hres, if_neg (by omega), if_neg (by decide), Int.toNat_natCast]
    have t2 : Tn (fun k => L k ≠ none) w ((rset3 w d r ⟨5, nm, 0⟩).setCell ⟨g, i * 2 + 1, none⟩ (.slice none 0 0)) := t1.set _ _ (fun _ => by rw [hlab]; simp)
    obtain ⟨L', hp, tt, hl'⟩ := hend
    have hb : RLft w q L (w4.setCell ⟨q, 3, none⟩ (.slice va vn vcp)) (N + ([] : List UInt8).length + 1) (S.openW nm r) := ⟨L', hp, t2.then tt, fun k hk e => hl' k (by simpa [rset3] using hk) e⟩
    exact (hb.no t).mono (by simp)
  have HE := hid hpost
  have HAPP : Hid ((Builtin.append_ #[47, 47] 47 #[tv, .slice (some ⟨w.heap.size, 0, none⟩) 1 1]).run Try.prog (((((w.setCell ⟨d, r * 3, none⟩ (.int .i64 5)).setCell ⟨d, r * 3 + 1, none⟩ (.string nm)).setCell ⟨d, r * 3 + 2, none⟩ (.int .i64 0)).setCell ⟨g, i * 2 + 1, none⟩ (.slice none 0 0)).alloc (.cells #[.int .i64 3, .string nm, .string ⟨#[]⟩] 50)) = .ok (.slice va vn vcp) w4) := hid (by have := hr; rw [show str [] = ⟨#[]⟩ from rfl] at this; simpa [rset3] using this)
  have e0 : ((((w.setCell ⟨d, r * 3, none⟩ (.int .i64 5)).setCell ⟨d, r * 3 + 1, none⟩ (.string nm)).setCell ⟨d, r * 3 + 2, none⟩ (.int .i64 0)).setCell ⟨g, i * 2 + 1, none⟩ (.slice none 0 0)).cell? ⟨q, 3, none⟩ = some tv := hx2.c3
  have e1 : (((w.setCell ⟨d, r * 3, none⟩ (.int .i64 5)).setCell ⟨d, r * 3 + 1, none⟩ (.string nm)).setCell ⟨d, r * 3 + 2, none⟩ (.int .i64 0)).cell? ⟨q, 0, none⟩ = some (.slice (some ⟨g, 0, none⟩) n cap) := hx1.c0
  have z0 : (((w.setCell ⟨d, r * 3, none⟩ (.int .i64 5)).setCell ⟨d, r * 3 + 1, none⟩ (.string nm)).setCell ⟨d, r * 3 + 2, none⟩ (.int .i64 0)).frozen? ⟨g, i * 2 + 1, none⟩ = false := by
    rw [World.frozen?_setCell, World.frozen?_setCell, World.frozen?_setCell]
    exact hfz _ (by omega)
  obtain ⟨u1, hu1⟩ : ∃ u, (((w.setCell ⟨d, r * 3, none⟩ (.int .i64 5)).setCell ⟨d, r * 3 + 1, none⟩ (.string nm)).setCell ⟨d, r * 3 + 2, none⟩ (.int .i64 0)).cell? ⟨g, i * 2 + 1, none⟩ = some u := by
    have := (hx1.lc i hi).2.1
    rw [show 2 * i + 1 = i * 2 + 1 by omega] at this
    exact ⟨_, this⟩
  have hdc3 : ∀ i, i < 19 → w.cell? ⟨d, i * 3 + 1, none⟩ = some (.string (S.ds i).name) ∧ w.cell? ⟨d, i * 3 + 2, none⟩ = some (.int .i64 ((S.ds i).place : Int)) := fun i hi => (hx.dc i hi).2
  have HDC3 := hid hdc3
  have HFREE := hid hfree
  have k2 := hx.c2
  have hdc : ∀ i, i < 19 → w.cell? ⟨d, i * 3, none⟩ = some (.int .i64 (S.ds i).kind) := fun i hi => (hx.dc i hi).1
  have HDC := hid hdc
  have hql := hx.qlt
  rw [hz] at HZ
  rw [hf] at HF
  unfold maxLen at hs
  have hs63 : (nm.size : Int) ≤ 9223372036854775807 := by omega
  have g1 : (nm.size : Int) ≤ 255 := by omega
  have g4 : nm.toList.isEmpty = false := by rw [toList_isEmpty]; simpa using a3
  have hin : (i : Int) < (n : Int) := by omega
  clear hpost hr hdc hdc3 hx hx1 hx2 hz hf hfh hs a1 a3 hres hfree hend hfz hnm hhas h0f t1
  go_enter Try.func34, Try.ntmps34
  go_wp2_with (first
    | (go_at_call 58; refine (HZ.out _).mono ?_; rintro e w1 ⟨rfl, rfl⟩)
    | (go_at_call 30; refine HF.out.mono ?_; rintro e w2 ⟨rfl, rfl⟩))
  go_loop [9] (fun i => ∃ k : Nat, k ≤ 19 ∧ i = .int .i64 (k : Int) ∧ Hid (∀ j, j < k → ¬ (S.ds j).kind = 0)) (fun i => 19 - (intOf i).toNat)
  case atStart => exact ⟨0, by omega, rfl, hid (fun j h => by omega)⟩
  case round =>
    obtain ⟨k, hk, rfl, HP⟩ := hrel
    by_cases hgo : k < 19 ∧ ¬ (S.ds k).kind = 0
    · obtain ⟨hlt, hne⟩ := hgo
      have q0 := HDC.out k hlt
      have hd : ((S.ds k).kind != 0) = true := by simpa using hne
      have hki : (k : Int) < 19 := by omega
      have HNE := hid hne
      clear hne
      go_wp2
      go_round
      case rel => exact ⟨k + 1, by omega, by go_num, hid (fun j h => by
        by_cases e : j = k
        · subst e; exact HNE.out
        · exact HP.out j (by omega))⟩
      case measure => simp [intOf]; omega
    · have hh : k < 19 ∧ (S.ds k).kind = 0 ∧ k = r := by
        rcases Nat.lt_or_ge k 19 with h | h
        · have h0 : (S.ds k).kind = 0 := Classical.byContradiction (fun e => hgo ⟨h, e⟩)
          have := free_some S k h HP.out h0
          rw [HFREE.out] at this
          exact ⟨h, h0, (Option.some.inj this).symm⟩
        · have := free_none S (fun j hj => HP.out j (by omega))
          rw [HFREE.out] at this
          cases this
      obtain ⟨hlt, hk0, rfl⟩ := hh
      have q0 := HDC.out k hlt
      rw [hk0] at q0
      obtain ⟨q1, q2⟩ := HDC3.out k hlt
      have hki : (k : Int) < 19 := by omega
      clear hgo
      go_wp2_with (at_builtin; refine wpList_app _ rfl _ _ _ _ rfl _ _ rfl rfl _ w4 HAPP.out ?_)
      all_goals (go_ret; exact HE.out _ (Tn.refl _ _))
end Go.Proofs.Ytkbdgdcicflocaa
