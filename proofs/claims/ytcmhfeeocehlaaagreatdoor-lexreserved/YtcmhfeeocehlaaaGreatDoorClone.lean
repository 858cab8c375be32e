/-
  slices.Clone of limbs.
-/
import Derived.Test.YtcmhfeeocehlaaaGreatDoorTrim
namespace Go.Proofs.YtcmhfeeocehlaaaGreatDoor
set_option linter.unusedSimpArgs false
set_option linter.unusedVariables false
open Go.RowKit

/-- what Clone answers: the same limbs in new memory -/
def ClonePost (w : World) (l : List Nat) (e : Ending) (w' : World) : Prop :=
  ∃ a c, e = .returned (.slice a l.length c) ∧ OW w' w.heap.size a l.length c l ∧ w.grownBy w' none

set_option maxHeartbeats 400000 in
theorem clone_nil (w : World) : Calls Tryz.prog 100 #[.slice none 0 0] w (ClonePost w []) := by
  have hnil := fun w => Lib.run_eql_slice_nil (P := Tryz.prog) w 33 84 none 0 0 0 0 Tryz.underlying33
  go_enter Tryz.func100, Tryz.ntmps100
  go_wp2
  go_ret
  exact ⟨none, 0, rfl, OW.nil' _ _, gb_refl _ _⟩

set_option maxHeartbeats 400000 in
theorem clone_some (ad : Addr) (n c : Nat) (l : List Nat) (w : World) (hl : l.length = n) (hp : 0 < n) (hb : n ≤ 35184372088832) (hlim : Lims l)
    (hcell : ∀ j u, (cl l)[j]? = some u → w.cell? (ad.add j) = some u) : Calls Tryz.prog 100 #[.slice (some ad) n c] w (ClonePost w l) := by
  obtain ⟨i0, hi, hz0, hz1, hz2⟩ := info_parts u32_info
  have hnil := fun w => Lib.run_eql_slice_nil (P := Tryz.prog) w 33 84 (some ad) n c 0 0 Tryz.underlying33
  go_enter Tryz.func100, Tryz.ntmps100
  have hown : (w.alloc (.cells #[] 84)).ownsRow w.heap.size 84 1 (.slice (some ⟨w.heap.size, 0, none⟩) 0 0) 0 [] := World.ownsRow_made w #[] 0 (Nat.le_refl _) (by unfold maxLen; omega) rfl
  have hcell' : ∀ j u, (cl l)[j]? = some u → (w.alloc (.cells #[] 84)).cell? (ad.add j) = some u := fun j u h => (gb_alloc (gb_refl w none) _).cell (hcell j u h) (by simp)
  go_wp2_with (at_builtin; refine wpList_append_lies _ rfl (.tmp 5) (.tmp 6) 33 rfl w.heap.size 84 i0 (.int .u32 0) 1 4 Tryz.underlying33 hi hz0 hz1 hz2 rfl (by decide) _ 0 [] rfl hown ad n c (cl l) rfl (by simp [cl, hl]) hcell' (cl_one l) hp (by unfold maxLen; omega) (by omega) (by simp) (w.heap.size + 1) (by simp) ?_; intro g cap w1 hown1 hgrow hat hlt)
  go_ret
  simp only [List.nil_append, Nat.zero_add] at hown1
  obtain ⟨hr, hbg, _, hcap, hcm⟩ := Row.of_owns hown1
  subst hl
  refine ⟨_, cap, rfl, OW.of_row (L := []) (by simpa using hr) hbg rfl hcap hb hcm hlim, ?_⟩
  refine gb_then (gb_alloc (gb_refl w none) _) hgrow ?_
  intro i e
  cases e
  exact Nat.le_refl _

theorem clone_raw (a : Option Addr) (n c : Nat) (l : List Nat) (w : World) (h : SL w a n c l) (hz : l = [] → a = none) :
    Calls Tryz.prog 100 #[.slice a n c] w (ClonePost w l) := by
  obtain ⟨hlen, hcap, hbig, hcm, hlim, hnil, b, off, ha, hcell⟩ := h
  by_cases h0 : n = 0
  · have hl : l = [] := List.length_eq_zero_iff.1 (by omega)
    obtain rfl := hz hl
    obtain ⟨rfl, rfl⟩ := hnil rfl
    subst hl
    exact clone_nil w
  · obtain ⟨rfl, _⟩ := ha (by omega)
    refine clone_some ⟨b, off, none⟩ n c l w hlen (by omega) hbig hlim (fun j u hu => ?_)
    have hj : j < l.length := by
      have := (List.getElem?_eq_some_iff.1 hu).1
      simpa [cl] using this
    rw [cl_get l j hj] at hu
    have hadd : (⟨b, off, none⟩ : Addr).add j = ⟨b, off + j, none⟩ := by simp [Addr.add]
    rw [hadd, hcell j (by omega)]
    exact hu
end Go.Proofs.YtcmhfeeocehlaaaGreatDoor
