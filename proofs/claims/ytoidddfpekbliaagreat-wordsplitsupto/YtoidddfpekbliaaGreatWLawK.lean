/-
  word, the laws: what 'known' says.
-/
import Derived.Test.YtoidddfpekbliaaGreatWJ38
import Derived.Test.YtoidddfpekbliaaGreatWJ07
namespace Go.Proofs.YtoidddfpekbliaaGreat
set_option linter.unusedSimpArgs false
set_option linter.unusedVariables false
open Go.RowKit
attribute [local go_sem ↓] Go.wp_at_zero Go.wp_at_succ

/-- the little program's process -/
def KP (w : World) (pb fb q N : Nat) (X : PSt) (u : World) : Prop :=
  ∃ L Lw, PA pb N fb q LR4 true X u L Lw ∧ (∀ k, L k ≠ none ∨ Lw k ≠ none → w.heap.size ≤ k) ∧ Tn No w u
section
variable {w u : World} {pb fb q N : Nat} {X : PSt}
theorem KP.no {v : World} (h : KP w pb fb q N X u) (t : Tn No u v) : KP w pb fb q N X v := by
  obtain ⟨L, Lw, g1, g2, g3⟩ := h
  exact ⟨L, Lw, g1.tn t (fun _ e => e.elim), g2, g3.then t⟩
theorem KP.old (h : KP w pb fb q N X u) : Tn No w u := by
  obtain ⟨L, Lw, g1, g2, g3⟩ := h
  exact g3
theorem KP.run (hR : RWF LR4) (hRK : RKd LR4) (hok : POk LR4 268435456 X) (k : Nat) (hk : k ≤ 20) (hN : N ≤ 40000000000) (hS : X.steps ≤ 1000) (h : KP w pb fb q N X u) :
    Calls Tryz.prog 18 #[.pointer (some ⟨pb, 0, none⟩), .int .i64 (k : Int)] u fun e w' => e = .returned (.int .i64 (PSt.run LR4 true k X).status) ∧ KP w pb fb q (N + k * (2 * 268435456 + 8)) (PSt.run LR4 true k X) w' ∧ POk LR4 268435456 (PSt.run LR4 true k X) := by
  obtain ⟨L, Lw, g1, g2, g3⟩ := h
  refine (run_raw hR hRK g1 hok (by omega) k (by omega) (by omega) (by omega)).mono ?_
  rintro e w' ⟨rfl, hj⟩
  refine ⟨rfl, ?_, hj.ok⟩
  obtain ⟨L', Lw', k1, k2, k3⟩ := hj.pl
  refine ⟨L', Lw', k1, fun k hk => ?_, g3.trans k2 (fun _ _ e => e) (fun i hi e => by have := g2 i e; omega)⟩
  by_cases hkw : k < u.heap.size
  · have : L k ≠ none ∨ Lw k ≠ none := by
      apply Classical.byContradiction
      intro hc
      have h1 : L k = none := Classical.byContradiction (fun q => hc (.inl q))
      have h2 : Lw k = none := Classical.byContradiction (fun q => hc (.inr q))
      obtain ⟨q1, q2⟩ := k3 k hkw h1 h2
      rcases hk with hk | hk
      · exact hk q1
      · exact hk q2
    exact g2 k this
  · have := g3.size; omega
theorem KP.mono {M : Nat} (h : KP w pb fb q N X u) (hM : N ≤ M) : KP w pb fb q M X u := by
  obtain ⟨L, Lw, g1, g2, g3⟩ := h
  exact ⟨L, Lw, g1.mono hM, g2, g3⟩
theorem KP.code (h : KP w pb fb q N X u) : Calls Tryz.prog 28 #[.pointer (some ⟨pb, 0, none⟩)] u fun e w' => e = .returned (.int .i64 X.code) ∧ w' = u := by
  obtain ⟨L, Lw, g1, _⟩ := h
  exact code_raw g1
theorem KP.steps (h : KP w pb fb q N X u) : Calls Tryz.prog 29 #[.pointer (some ⟨pb, 0, none⟩)] u fun e w' => e = .returned (.int .i64 (X.steps : Int)) ∧ w' = u := by
  obtain ⟨L, Lw, g1, _⟩ := h
  exact steps_raw g1
end
theorem first_st (M : Mem) (S : St) : PSt.first M S = st1c M S 0 (fun _ => none) 0 := rfl
def zeroP : Wp := ⟨.slice none 0 0, [], .slice none 0 0, [], 0⟩
theorem zeroP_ok (w : World) : PgA w zeroP := ⟨LD.nil _ _ _, (fun f hf => by cases hf), LD.nil _ _ _, (fun b hb => by cases hb), (by simp [zeroP, i64ok]), (by simp [zeroP]), (by simp [zeroP])⟩
theorem zeroP_no : mayP zeroP = false := by rfl

theorem lr4_ok : RWF LR4 ∧ RKd LR4 := by
  have h1 := ready_wf (pok_of (little_may (.slice none 0 0) (.slice none 0 0)))
  have h2 := ready_kd (pok_of (little_may (.slice none 0 0) (.slice none 0 0)))
  rw [little_ready, lq_at] at h1 h2
  exact ⟨h1, h2⟩

set_option maxHeartbeats 8000000 in
set_option maxRecDepth 100000 in
theorem known_raw (w : World) : Calls Tryz.prog 13 #[] w fun e w' => e = .returned (.bool true) ∧ Tn No w w' := by
  have HLT := hid (fun u => little_raw u)
  have HNW : Hid (∀ u, Calls Tryz.prog 14 #[.agg #[.string ⟨#[]⟩, .slice none 0 0]] u fun e u' => ∃ q, e = .returned (.pointer (some ⟨q, 0, none⟩)) ∧ Own u u' q 0 (initSt (filesOf []) ⟨#[]⟩)) := hid (fun u => new_raw ⟨#[]⟩ none 0 0 0 [] u (by decide) ⟨rfl, fun h => by omega, fun j hj => by cases hj⟩ (by omega) (by omega))
  have HZ : Hid (∀ u, Calls Tryz.prog 8 #[.agg #[.slice none 0 0, .slice none 0 0, .int .i64 0]] u fun e w' => e = .returned (.int .i64 130) ∧ Tn No u w') := hid (fun u => by
    have := check_raw zeroP u (zeroP_ok u)
    rw [zeroP_no] at this
    exact this)
  have HS : Hid (∀ fv cv u, PgA u (littleP fv cv) → Calls Tryz.prog 11 #[(littleP fv cv).val] u fun e w' => e = .returned (.bool true) ∧ Tn No u w') := hid (fun fv cv u h => strict_little fv cv u h)
  have HP : Hid (∀ fv cv u v q, PgA u (littleP fv cv) → Own u v q 0 (initSt (filesOf []) ⟨#[]⟩) → Calls Tryz.prog 15 #[(littleP fv cv).val, .int .u64 65536, .bool true, .pointer (some ⟨q, 0, none⟩)] v fun e w' => ∃ pb fb M, e = .returned (.tuple #[.pointer (some ⟨pb, 0, none⟩), .int .i64 0]) ∧ KP u pb fb q 0 (st1c M (initSt (filesOf []) ⟨#[]⟩) 0 (fun _ => none) 0) w' ∧ POk LR4 268435456 (st1c M (initSt (filesOf []) ⟨#[]⟩) 0 (fun _ => none) 0)) := hid (fun fv cv u v q hp ho => by
    obtain ⟨Lw, hpw, tt, hl⟩ := ho
    have hk := pok_of (little_may fv cv)
    refine (pnew_raw (littleP fv cv) v (hp.no tt) (little_may fv cv) 65536 (by omega) (by omega) true q 0 Lw _ hpw (by omega)).mono ?_
    rintro e w' ⟨pb, fb, L, rfl, hpa, t, hn⟩
    rw [little_ready, lq_at] at hpa
    have e0 : 0 + ((littleP fv cv).data.length + 7) / 8 = 0 := by simp [littleP]
    rw [e0] at hpa
    have hpa : PA pb 0 fb q LR4 true (st1c ((littleP fv cv).mem 65536) (initSt (filesOf []) ⟨#[]⟩) 0 (fun _ => none) 0) w' L Lw := hpa
    refine ⟨pb, fb, _, rfl, ⟨L, Lw, hpa, fun k hk => ?_, tt.then t⟩, ?_⟩
    · rcases hk with hk | hk
      · apply Classical.byContradiction
        intro hc
        have := tt.size
        exact hk (hn k (by omega))
      · exact hl k hk
    · have := first_ok hk 65536 (by omega) (initSt (filesOf []) ⟨#[]⟩) (wf_init _ _)
      rw [little_ready, lq_at] at this
      exact this)
  have HR3 : Hid (∀ pb fb q M S u v, KP u pb fb q 0 (st1c M S 0 (fun _ => none) 0) v → POk LR4 268435456 (st1c M S 0 (fun _ => none) 0) → Calls Tryz.prog 18 #[.pointer (some ⟨pb, 0, none⟩), .int .i64 3] v fun e w' => e = .returned (.int .i64 0) ∧ KP u pb fb q 2000000000 (st1c M S 3 (upd (upd (upd (fun _ => none) 0 (some 5)) 1 (some 7)) 2 (some 18446744073709551614)) 3) w' ∧ POk LR4 268435456 (st1c M S 3 (upd (upd (upd (fun _ => none) 0 (some 5)) 1 (some 7)) 2 (some 18446744073709551614)) 3)) := hid (fun pb fb q M S u v hk hok => by
    obtain ⟨hrw, hrk⟩ := lr4_ok
    have := KP.run hrw hrk hok 3 (by omega) (by omega) (by show (0 : Nat) ≤ 1000; omega) hk
    rw [(run_little M S v).1] at this
    refine this.mono ?_
    rintro e w' ⟨he, q1, q2⟩
    exact ⟨he, q1.mono (by omega), q2⟩)
  have HR9 : Hid (∀ pb fb q M S u v, KP u pb fb q 2000000000 (st1c M S 3 (upd (upd (upd (fun _ => none) 0 (some 5)) 1 (some 7)) 2 (some 18446744073709551614)) 3) v → POk LR4 268435456 (st1c M S 3 (upd (upd (upd (fun _ => none) 0 (some 5)) 1 (some 7)) 2 (some 18446744073709551614)) 3) → Calls Tryz.prog 18 #[.pointer (some ⟨pb, 0, none⟩), .int .i64 9] v fun e w' => e = .returned (.int .i64 1) ∧ KP u pb fb q 9000000000 ⟨[], M, S, false, 1, 254, 0, 4⟩ w') := hid (fun pb fb q M S u v hk hok => by
    obtain ⟨hrw, hrk⟩ := lr4_ok
    have := KP.run hrw hrk hok 9 (by omega) (by omega) (by show (3 : Nat) ≤ 1000; omega) hk
    rw [(run_little M S v).2] at this
    refine this.mono ?_
    rintro e w' ⟨he, q1, q2⟩
    exact ⟨he, q1.mono (by omega)⟩)
  have HCS : Hid (∀ pb fb q M S u v, KP u pb fb q 9000000000 ⟨[], M, S, false, 1, 254, 0, 4⟩ v → (∀ v', Tn No v v' → Calls Tryz.prog 28 #[.pointer (some ⟨pb, 0, none⟩)] v' fun e w' => e = .returned (.int .i64 254) ∧ w' = v') ∧ (∀ v', Tn No v v' → Calls Tryz.prog 29 #[.pointer (some ⟨pb, 0, none⟩)] v' fun e w' => e = .returned (.int .i64 4) ∧ w' = v') ∧ Tn No u v) := hid (fun pb fb q M S u v hk => ⟨fun v' t => (hk.no t).code, fun v' t => (hk.no t).steps, hk.old⟩)
  go_enter Tryz.func13, Tryz.ntmps13
  go_wp2_with (first
    | (go_at_call 38; have hx9 := HT9.out; refine (HLT.out _).mono ?_; rintro e w7 ⟨fv7, cv7, rfl, hp, t2⟩; have HP7 := hid hp; have T7 := hid (hx9.then t2); clear hp t2 hx9)
    | (go_at_call 38; refine (HLT.out _).mono ?_; rintro e w2 ⟨fv, cv, rfl, hp, t2⟩; have HP2 := hid hp; have T2 := hid t2; clear hp t2)
    | (go_at_call 14; refine (HNW.out _).mono ?_; rintro e w3 ⟨q, rfl, ho⟩; have HO := hid ho; clear ho)
    | (go_at_call 15; refine (HP.out fv cv w2 w3 q HP2.out HO.out).mono ?_; rintro e w4 ⟨pb, fb, M, rfl, hk, hok⟩; have HK4 := hid hk; have HOK := hid hok; clear hk hok)
    | (go_at_call 18; refine (HR9.out _ _ _ _ _ _ _ HK5.out HOK5.out).mono ?_; rintro e w6 ⟨rfl, hk⟩; obtain ⟨k1, k2, k3⟩ := HCS.out _ _ _ _ _ _ _ hk; have HCO := hid k1; have HST := hid k2; have HT9 := hid (T2.out.then k3); clear hk k1 k2 k3)
    | (go_at_call 18; refine (HR3.out _ _ _ _ _ _ _ HK4.out HOK.out).mono ?_; rintro e w5 ⟨rfl, hk, hok⟩; have HK5 := hid hk; have HOK5 := hid hok; clear hk hok)
    | (go_at_call 28; refine (HCO.out _ (Tn.refl _ _)).mono ?_; rintro e w8 ⟨rfl, rfl⟩)
    | (go_at_call 29; refine (HST.out _ (Tn.refl _ _)).mono ?_; rintro e w8 ⟨rfl, rfl⟩)
    | (go_at_call 11; refine (HS.out _ _ _ HP7.out).mono ?_; rintro e w8 ⟨rfl, t8⟩; have T8 := hid (T7.out.then t8); clear t8)
    | (go_at_call 8; refine (HZ.out _).mono ?_; rintro e w9 ⟨rfl, t9⟩; have T9 := hid (T8.out.then t9); clear t9))
  go_ret
  exact ⟨rfl, T9.out⟩
end Go.Proofs.YtoidddfpekbliaaGreat
