/-
  slices.Clone of bytes.
-/
import Derived.Test.YtkbdgdcicflocaaTrace
namespace Go.Proofs.Ytkbdgdcicflocaa
set_option linter.unusedSimpArgs false
set_option linter.unusedVariables false
open Go.RowKit
attribute [local go_sem ↓] Go.wp_at_zero Go.wp_at_succ

def ClPost (w : World) (l : List UInt8) (e : Ending) (w' : World) : Prop :=
  ∃ a cap, e = .returned (.slice a l.length cap) ∧ BR w' (.slice a l.length cap) l ∧ (∀ g, (Value.slice a l.length cap).ownBlock = some g → w.heap.size ≤ g) ∧ Tn No w w'

theorem BR.src {w : World} {g n cap : Nat} {l : List UInt8} (h : BR w (.slice (some ⟨g, 0, none⟩) n cap) l) : Src Try.prog 1 64 (.slice (some ⟨g, 0, none⟩) l.length cap) l.length (bc l) w :=
  Src.ofSlice _ Try.underlying64 _ _ cap _ (by rw [bc_length]; simp) (fun j u hu => by
    have hj : j < l.length := by have := (List.getElem?_eq_some_iff.1 hu).1; rwa [bc_length] at this
    rw [addr_add]
    have := h.at' j hj
    simp only [vc] at this
    rw [this]
    rw [← hu]
    simp [bc, hj]) (fun u hu => by
    simp only [bc, List.mem_map] at hu
    obtain ⟨x, _, rfl⟩ := hu
    rfl)

set_option maxHeartbeats 1000000 in
set_option maxRecDepth 100000 in
theorem clone_raw (v : Value) (l : List UInt8) (w : World) (h : BR w v l) (hl : l.length ≤ 1099511627776) : Calls Try.prog 49 #[v] w (ClPost w l) := by
  rcases h.rw with ⟨rfl, e⟩ | ⟨g, cap, rfl, hg, h1, h2, h3⟩
  · have hnil := fun w => Lib.run_eql_slice_nil (P := Try.prog) w 64 5 none 0 0 0 0 Try.underlying64
    go_enter Try.func49, Try.ntmps49
    go_wp2
    go_ret
    exact ⟨none, 0, by rw [e]; rfl, by rw [e]; exact h, fun g hg => (by cases hg), Tn.refl _ _⟩
  · have hnil := fun w => Lib.run_eql_slice_nil (P := Try.prog) w 64 5 (some ⟨g, 0, none⟩) l.length cap 0 0 Try.underlying64
    have t1 : Tn No w (w.alloc (.cells #[] 5)) := Tn.alloc (Tn.refl _ _) _
    have h0 : BR (w.alloc (.cells #[] 5)) (.slice (some ⟨w.heap.size, 0, none⟩) 0 0) [] := ⟨.inr ⟨_, 0, rfl, by simp, Nat.le_refl _, by unfold maxLen; omega, fun j hj => by omega⟩, fun j hj => by simp at hj⟩
    obtain ⟨v', w', hr, hbr, hgr, hgo⟩ := br_append 64 h0 (h.no t1).src (by simp; omega)
    rw [List.nil_append] at hbr
    obtain ⟨a', c', rfl, _⟩ := hbr.rw.form
    have hob : ∀ g, (Value.slice a' l.length c').ownBlock = some g → w.heap.size ≤ g := fun g hg => by
      rcases hgo with e | e
      · rw [e] at hg; cases hg; exact Nat.le_refl _
      · rw [e] at hg; cases hg; simp
    have ht : Tn No w w' := t1.grown hgr (fun i hi hlt => by simp [Value.ownBlock] at hi; omega)
    have HR := hid hr
    have HE : Hid (ClPost w l (.returned (.slice a' l.length c')) w') := hid ⟨a', c', rfl, hbr, hob, ht⟩
    clear hr hbr hgr hgo hob ht h0 t1 h h3
    go_enter Try.func49, Try.ntmps49
    go_wp2_with (at_builtin; refine wpList_app _ rfl _ _ _ _ rfl _ _ rfl rfl _ w' HR.out ?_)
    go_ret
    exact HE.out
end Go.Proofs.Ytkbdgdcicflocaa
