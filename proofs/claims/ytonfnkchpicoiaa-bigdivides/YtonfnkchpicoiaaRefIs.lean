/-
  The reference: Norm, Sign, Cmp, Same, Valid, Is; the law's is.
-/
import Derived.Test.YtonfnkchpicoiaaRefCmp
namespace Go.Proofs.Ytonfnkchpicoiaa
set_option linter.unusedSimpArgs false
set_option linter.unusedVariables false
open Go.RowKit
attribute [local go_sem ↓] Go.wp_at_zero Go.wp_at_succ

/-- an integer as it should stand, in new memory (the reference's: 0 has limbs that are not nil) -/
def RIntPost (w : World) (z : Int) (k : Nat) (e : Ending) (w' : World) : Prop :=
  ∃ s a l, e = .returned (.agg #[.bool s, .slice a l.length l.length]) ∧ OW w' w.heap.size a l.length l.length l ∧ Nrm l ∧ (s = true → l ≠ []) ∧ iv s l = z ∧ l.length ≤ k ∧ w.grownBy w' none

theorem rint_end {w w3 : World} {g B k : Nat} {z : Int} {s : Bool} {a : Option Addr} {l : List Nat} (hg : w.grownBy w3 none) (ho : OW w3 B a l.length l.length l) (hgB : g < B) (hw : w.heap.size ≤ g) (hB : w.heap.size ≤ B)
    (hn : Nrm l) (hs : s = true → l ≠ []) (hz : iv s l = z) (hk : l.length ≤ k) (v0 v1 : Value) :
    RIntPost w z k (.returned (.agg #[.bool s, .slice a l.length l.length])) ((w3.setCell ⟨g, 0, none⟩ v0).setCell ⟨g, 1, none⟩ v1) := by
  have h3 : w3.grownBy ((w3.setCell ⟨g, 0, none⟩ v0).setCell ⟨g, 1, none⟩ v1) (some g) := gb_set (gb_set (gb_refl _ _) _ _ (.inl rfl)) _ _ (.inl rfl)
  exact ⟨s, a, l, rfl, (ho.kept h3 (fun i e => by cases e; exact ho.off hgB)).mono hB, hn, hs, hz, hk, gb_then hg h3 (fun i e => by cases e; exact hw)⟩

/-- what the reference's Norm answers, told of the limbs themselves -/
def RNormPost (w : World) (s : Bool) (x : List Nat) (e : Ending) (w' : World) : Prop :=
  ∃ a, e = .returned (.agg #[.bool (s && !decide (tr x = [])), .slice a (tr x).length (tr x).length]) ∧ OW w' w.heap.size a (tr x).length (tr x).length (tr x) ∧ w.grownBy w' none

set_option maxHeartbeats 800000 in
theorem rnorm_at (s : Bool) (a : Option Addr) (n c : Nat) (x : List Nat) (w : World) (hx : SL w a n c x) :
    Calls Try.prog 17 #[.agg #[.bool s, .slice a n c]] w (RNormPost w s x) := by
  have hd : decide (0 < (tr x).length) = !decide (tr x = []) := by cases h : tr x <;> simp
  have htl : (tr x).length ≤ 35184372088832 := by have := tr_le x; have := hx.len; have := hx.big; omega
  have hlt := lims_tr hx.lim
  cases s
  all_goals
    go_enter Try.func17, Try.ntmps17
    go_wp2_with (go_at_call 47; refine (rtrim_raw a n c x _ (by exact hx.grown (by repeat (first | exact gb_refl _ _ | apply gb_drew | apply gb_alloc | (refine gb_then ?_ (by assumption) (by simp)))))).mono ?_; rintro e w1 ⟨g1, rfl, hr1, hB1, hg1⟩; obtain ⟨hc1, hf1, hz1⟩ := box_kept w.heap.size hg1 (by first | (simp; done) | (simp; omega) | omega); obtain ⟨hd1, he1, hy1⟩ := box_kept (w.heap.size + 1) hg1 (by first | (simp; done) | (simp; omega) | omega))
  · refine bodyPost_ret (v := .agg #[.bool false, .slice (some ⟨g1, 0, none⟩) (tr x).length (tr x).length]) (by simp [results, Try.results17, go_sem, hd1, he1, hy1]) rfl ?_
    have ho := OW.of_row (L := []) (by simpa using hr1) hB1 rfl (Nat.le_refl _) htl (by omega) hlt
    have h3 : w1.grownBy ((w1.setCell ⟨w.heap.size + 1, 0, none⟩ (.bool false)).setCell ⟨w.heap.size + 1, 1, none⟩ (.slice (some ⟨g1, 0, none⟩) (tr x).length (tr x).length)) (some (w.heap.size + 1)) := gb_set (gb_set (gb_refl _ _) _ _ (.inl rfl)) _ _ (.inl rfl)
    exact ⟨_, by simp, (ho.kept h3 (fun i e => by cases e; exact ho.off (by first | (simp; done) | (simp; omega) | omega))).mono (by first | (simp; done) | (simp; omega) | omega), gb_then (show w.grownBy w1 none from (by repeat (first | exact gb_refl _ _ | apply gb_drew | apply gb_alloc | (refine gb_then ?_ (by assumption) (by simp))))) h3 (fun i e => by cases e; omega)⟩
  · refine bodyPost_ret (v := .agg #[.bool (!decide (tr x = [])), .slice (some ⟨g1, 0, none⟩) (tr x).length (tr x).length]) (by simp [results, Try.results17, go_sem, hd1, he1, hy1]) rfl ?_
    have ho := OW.of_row (L := []) (by simpa using hr1) hB1 rfl (Nat.le_refl _) htl (by omega) hlt
    have h3 : w1.grownBy ((w1.setCell ⟨w.heap.size + 1, 0, none⟩ (.bool (!decide (tr x = [])))).setCell ⟨w.heap.size + 1, 1, none⟩ (.slice (some ⟨g1, 0, none⟩) (tr x).length (tr x).length)) (some (w.heap.size + 1)) := gb_set (gb_set (gb_refl _ _) _ _ (.inl rfl)) _ _ (.inl rfl)
    exact ⟨_, by simp, (ho.kept h3 (fun i e => by cases e; exact ho.off (by first | (simp; done) | (simp; omega) | omega))).mono (by first | (simp; done) | (simp; omega) | omega), gb_then (show w.grownBy w1 none from (by repeat (first | exact gb_refl _ _ | apply gb_drew | apply gb_alloc | (refine gb_then ?_ (by assumption) (by simp))))) h3 (fun i e => by cases e; omega)⟩

theorem rnorm_raw (s : Bool) (a : Option Addr) (n c : Nat) (x : List Nat) (w : World) (hx : SL w a n c x) :
    Calls Try.prog 17 #[.agg #[.bool s, .slice a n c]] w (RIntPost w (iv s x) n) := by
  refine (rnorm_at s a n c x w hx).mono ?_
  rintro e w' ⟨a', rfl, ho, hg⟩
  refine ⟨_, a', tr x, rfl, ho, nrm_tr x, ?_, iv_tr s x, ?_, hg⟩
  · intro e; simp at e; exact e.2
  · have := tr_le x; have := hx.len; omega
end Go.Proofs.Ytonfnkchpicoiaa
