/-
  awake: the few answers that it holds against the document's.
-/
import Derived.Test.YtcmhfeeocehlaaaGreatDoorTokens2
namespace Go.Proofs.YtcmhfeeocehlaaaGreatDoor
set_option linter.unusedSimpArgs false
set_option linter.unusedVariables false
open Go.RowKit Go.PlainAid
attribute [local go_sem ↓] Go.wp_at_zero Go.wp_at_succ

set_option maxRecDepth 100000 in
theorem aw_whole : ∀ a, a < 27 → isNum awT a = true → numE awT a = whole awT a := by decide
theorem aw_reals (rb : ByteArray → Int) : RBs rb awT := fun a ha _ hn hne _ => absurd (aw_whole a ha hn) hne
theorem aw_five (rb : ByteArray → Int) : ∃ ts t1 t2 t3 t4, lexW rb awT = .ok ts ∧ ts.length = 5 ∧ ts[1]? = some t1 ∧ ts[2]? = some t2 ∧ ts[3]? = some t3 ∧ ts[4]? = some t4 ∧ t1.text.data.toList = [65, 46, 120, 39] ∧ t2.kind = 8 ∧ t3.kind = 4 ∧ t4.n = 98 := by
  have h := aw_kinds rb
  cases hl : lexW rb awT with
  | bad c p => rw [hl] at h; simp [kindsOf] at h
  | ok l =>
    rw [hl] at h
    unfold kindsOf at h
    match l, h with
    | [t0, t1, t2, t3, t4], h =>
      simp only [List.map_cons, List.map_nil, List.cons.injEq, Prod.mk.injEq, and_true] at h
      exact ⟨_, t1, t2, t3, t4, rfl, rfl, rfl, rfl, rfl, rfl, h.2.1.2.1, h.2.2.1.1, h.2.2.2.1.1, h.2.2.2.2.2.2.2.1⟩

set_option maxHeartbeats 2000000 in
set_option maxRecDepth 100000 in
theorem awake_raw (w : World) : Calls Tryz.prog 7 #[] w fun e w' => e = .returned (.bool true) ∧ Tn No w w' := by
  obtain ⟨ts, t1, t2, t3, t4, hl, hlen, g1, g2, g3, g4, x1, x2, x3, x4⟩ := aw_five (fun _ => 0)
  have htk := fun w => tokens_raw (fun _ => 0) awT w (by decide) (aw_reals _)
  rw [hl] at htk
  have HTK := hid htk
  have hq : (t1.text.toList == [65, 46, 120, 39]) = true := by rw [Lib.toList_data, x1]; rfl
  have HG := hid (And.intro g1 (And.intro g2 (And.intro g3 g4)))
  have HLEN := hid hlen
  clear htk hl g1 g2 g3 g4 x1 hlen
  unfold awT at HTK
  go_enter Tryz.func7, Tryz.ntmps7
  go_wp2_with (go_at_call 8; refine (HTK.out _).mono ?_; rintro e w1 ⟨ht, av, cv, rfl, htl, hob⟩; rw [HLEN.out] at htl ⊢; obtain ⟨g, cap, hv, hgl, hnc, hcm, _⟩ := RW.pos (HLEN.out ▸ htl.rw) (by omega); cases hv; obtain ⟨_, _, _, _, _, a1, _⟩ := htl.tk 1 t1 HG.out.1; obtain ⟨_, _, _, _, a2, _⟩ := htl.tk 2 t2 HG.out.2.1; obtain ⟨_, _, _, _, a3, _⟩ := htl.tk 3 t3 HG.out.2.2.1; obtain ⟨_, _, _, _, _, _, _, _, _, a4, _⟩ := htl.tk 4 t4 HG.out.2.2.2; rw [x2] at a2; rw [x3] at a3; rw [x4] at a4; have c1 : w1.cell? ⟨g, 8, none⟩ = some (.string t1.text) := a1; have c2 : w1.cell? ⟨g, 14, none⟩ = some (.int .i64 8) := a2; have c3 : w1.cell? ⟨g, 21, none⟩ = some (.int .i64 4) := a3; have c4 : w1.cell? ⟨g, 33, none⟩ = some (.int .i64 98) := a4; have HT := hid ht; clear a1 a2 a3 a4 htl hob ht; simp only [msV])
  go_ret
  exact ⟨rfl, HT.out.alloc _⟩

set_option maxHeartbeats 2000000 in
set_option maxRecDepth 100000 in
theorem lexReserved_walk (s : ByteArray) (w : World) : Calls Tryz.prog 4 #[.string s] w fun e w' => e = .returned (.bool true) ∧ Tn No w w' := by
  have HR := hid (fun w => reserved_raw s w)
  have HR2 := hid (fun w => rreserved_raw s w)
  obtain ⟨b, hb⟩ : ∃ b, resv s.data.toList = b := ⟨_, rfl⟩
  rw [hb] at HR HR2
  clear hb
  go_enter Tryz.func4, Tryz.ntmps4
  go_wp2_with (first
    | (go_at_call 7; refine (awake_raw _).mono ?_; rintro e w1 ⟨rfl, ht⟩)
    | (go_at_call 11; refine (HR.out _).mono ?_; rintro e w' ⟨rfl, rfl⟩)
    | (go_at_call 12; refine (HR2.out _).mono ?_; rintro e w' ⟨rfl, rfl⟩))
  all_goals (go_ret; exact ⟨by simp, ht⟩)
end Go.Proofs.YtcmhfeeocehlaaaGreatDoor
