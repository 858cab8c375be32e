/-
  known: it answers true.
-/
import Derived.Test.YtkbdgdcicflocaaOwn
namespace Go.Proofs.Ytkbdgdcicflocaa
set_option linter.unusedSimpArgs false
set_option linter.unusedVariables false
open Go.RowKit
attribute [local go_sem ↓] Go.wp_at_zero Go.wp_at_succ

set_option maxHeartbeats 4000000 in
set_option maxRecDepth 100000 in
theorem known_raw (w : World) : Calls Try.prog 11 #[] w fun e w' => e = .returned (.bool true) ∧ Tn No w w' := by
  have hnew := own_new ⟨#[97, 98, 10, 99]⟩ w w (Tn.refl _ _) (by unfold maxLen; decide)
  have hline : ∀ p u, Own w u p 0 K0 → Calls Try.prog 25 #[.pointer (some ⟨p, 0, none⟩)] u fun e u' => e = .returned (.string ⟨#[97, 98, 10]⟩) ∧ Own w u' p 0 K1 := fun p u h => by
    have := own_line h
    rw [k_line] at this
    exact this
  have hwf : ∀ p u, Own w u p 0 K1 → Calls Try.prog 32 #[.pointer (some ⟨p, 0, none⟩), .string ⟨#[102]⟩, .string ⟨#[120, 121, 122]⟩] u fun e u' => e = .returned (.bool true) ∧ Own w u' p 100 K2 := fun p u h => by
    have := own_wfile h wf_k1 bf bxyz (by unfold maxLen; decide) (by decide)
    rw [k_wf] at this
    exact this.mono (fun e u' ⟨a, b⟩ => ⟨a, b.mono (by decide)⟩)
  have hrf : ∀ p u, Own w u p 100 K2 → Calls Try.prog 22 #[.pointer (some ⟨p, 0, none⟩), .string ⟨#[102]⟩] u fun e u' => e = .returned (.tuple #[.string ⟨#[120, 121, 122]⟩, .bool true]) ∧ Own w u' p 200 K3 := fun p u h => by
    have := own_rfile h bf (by unfold maxLen; decide) (by decide)
    rw [k_rf, k_rt] at this
    exact this.mono (fun e u' ⟨a, b⟩ => ⟨a, b.mono (by decide)⟩)
  have hout : ∀ p u, Own w u p 200 K3 → Calls Try.prog 17 #[.pointer (some ⟨p, 0, none⟩), .string ⟨#[113]⟩] u fun e u' => e = .returned (.tuple #[]) ∧ Own w u' p 300 K4 := fun p u h => by
    have := own_out h wf_k3 bq (by decide)
    exact this.mono (fun e u' ⟨a, b⟩ => ⟨a, b.mono (by decide)⟩)
  have htr : ∀ p u, Own w u p 300 K4 → Calls Try.prog 19 #[.pointer (some ⟨p, 0, none⟩)] u fun e u' => ∃ g cap, e = .returned (.slice (some ⟨g, 0, none⟩) 2 cap) ∧ u'.cell? ⟨g, 2, none⟩ = some (.string ⟨#[120, 121, 122]⟩) ∧ u'.cell? ⟨g, 3, none⟩ = some (.int .i64 1) ∧ Tn No w u' := fun p u h => by
    have h0 := h.tn
    refine (own_trace h (by decide)).mono (fun e u' ⟨v, he, htv, t⟩ => ?_)
    rw [k_tr] at htv
    obtain ⟨g, cap, hv, _⟩ := htv.rw.pos (by decide)
    subst hv
    have e0 := (htv.ev 0 _ rfl).2.2
    have e1 := (htv.ev 1 _ rfl).1
    exact ⟨g, cap, he, e0, e1, h0.then t⟩
  have HN := hid hnew
  have HL := hid hline
  have HW := hid hwf
  have HR := hid hrf
  have HO := hid hout
  have HT := hid htr
  clear hnew hline hwf hrf hout htr
  go_enter Try.func11, Try.ntmps11
  go_wp2_with (first
    | (go_at_call 9; refine HN.out.mono ?_; rintro e w1 ⟨p, rfl, h1, t1⟩)
    | (go_at_call 25; refine (HL.out _ _ h1).mono ?_; rintro e w2 ⟨rfl, h2⟩)
    | (go_at_call 32; refine (HW.out _ _ h2).mono ?_; rintro e w3 ⟨rfl, h3⟩)
    | (go_at_call 22; refine (HR.out _ _ h3).mono ?_; rintro e w4 ⟨rfl, h4⟩)
    | (go_at_call 17; refine (HO.out _ _ h4).mono ?_; rintro e w5 ⟨rfl, h5⟩)
    | (go_at_call 19; refine (HT.out _ _ h5).mono ?_; rintro e w6 ⟨g, cap, rfl, q0, q1, t6⟩))
  go_ret
  exact ⟨rfl, t6⟩
end Go.Proofs.Ytkbdgdcicflocaa
