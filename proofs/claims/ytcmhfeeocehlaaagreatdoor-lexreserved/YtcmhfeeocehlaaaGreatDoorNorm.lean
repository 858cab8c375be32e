/-
  Integers as the program's functions read and answer them; Norm.
-/
import Derived.Test.YtcmhfeeocehlaaaGreatDoorProd
namespace Go.Proofs.YtcmhfeeocehlaaaGreatDoor
set_option linter.unusedSimpArgs false
set_option linter.unusedVariables false
open Go.RowKit
attribute [local go_sem ↓] Go.wp_at_zero Go.wp_at_succ

/-- the integer that a sign and limbs say -/
def iv (s : Bool) (l : List Nat) : Int := if s = true then -(val l : Int) else (val l : Int)

/-- an integer as it should stand, in memory of the call's own -/
def IntPost (w : World) (z : Int) (k : Nat) (e : Ending) (w' : World) : Prop :=
  ∃ s a l, e = .returned (.agg #[.bool s, .slice a l.length l.length]) ∧ OW w' w.heap.size a l.length l.length l ∧ Nrm l ∧ (s = true → l ≠ []) ∧ iv s l = z ∧ l.length ≤ k ∧ (l = [] → a = none) ∧ w.grownBy w' none

/-- what made answers of limbs of the call's own -/
def MadeOwn (w : World) (B : Nat) (z : Int) (k : Nat) (e : Ending) (w' : World) : Prop :=
  ∃ s a l, e = .returned (.agg #[.bool s, .slice a l.length l.length]) ∧ OW w' B a l.length l.length l ∧ Nrm l ∧ (s = true → l ≠ []) ∧ iv s l = z ∧ l.length ≤ k ∧ (l = [] → a = none) ∧ w.grownBy w' none

theorem iv_tr (s : Bool) (l : List Nat) : iv (s && !decide (tr l = [])) (tr l) = iv s l := by
  unfold iv
  rw [val_tr]
  by_cases h : tr l = []
  · have : val l = 0 := by rw [← val_tr, h]; rfl
    cases s <;> simp [h, this]
  · cases s <;> simp [h]

theorem made_own (s : Bool) (B : Nat) (a : Option Addr) (n c : Nat) (l : List Nat) (w : World) (h : OW w B a n c l) :
    Calls Tryz.prog 98 #[.bool s, .slice a n c] w (MadeOwn w B (iv s l) n) := by
  refine (made_raw s a n c l w h.sl).mono ?_
  rintro e w' ⟨a', rfl, hg, ha⟩
  refine ⟨_, a', tr l, rfl, (h.grown hg).trim ha, nrm_tr l, ?_, iv_tr s l, ?_, ?_, hg⟩
  · intro e; simp at e; exact e.2
  · rw [tr_length, h.sl.len]; exact tl_le l n
  · intro e
    rcases ha with ha | ha
    · exact ha.2
    · exact absurd e ha.1

/-- what was there is there -/
theorem gb_rules {w w1 : World} (h : w.grownBy w1 none) : (∀ b o, b < w.heap.size → w1.cell? ⟨b, o, none⟩ = w.cell? ⟨b, o, none⟩) ∧ (∀ b o, b < w.heap.size → w1.frozen? ⟨b, o, none⟩ = w.frozen? ⟨b, o, none⟩) ∧ w.heap.size ≤ w1.heap.size :=
  ⟨fun b o hb => World.cell?_of_block (w := w) (h.block b hb (by simp)), fun b o hb => World.frozen?_of_block (w := w) (h.block b hb (by simp)), h.size⟩

theorem OW.off {w : World} {B g : Nat} {a : Option Addr} {n c : Nat} {l : List Nat} (h : OW w B a n c l) (hg : g < B) : Off a n g := by
  intro hn b off s e
  obtain ⟨g', off', L, ea, hb, _⟩ := h.own hn
  rw [ea] at e
  simp only [Option.some.injEq, Addr.mk.injEq] at e
  omega
theorem iv_of_val {s : Bool} {l l' : List Nat} (h : val l = val l') : iv s l = iv s l' := by unfold iv; rw [h]

/-- an integer is answered through a cell of the call's own -/
theorem int_end {w w3 : World} {g B k : Nat} {z : Int} {s : Bool} {a : Option Addr} {l : List Nat} (hg : w.grownBy w3 none) (ho : OW w3 B a l.length l.length l) (hgB : g < B) (hw : w.heap.size ≤ g) (hB : w.heap.size ≤ B)
    (hn : Nrm l) (hs : s = true → l ≠ []) (hz : iv s l = z) (hk : l.length ≤ k) (ha : l = [] → a = none) (v0 v1 : Value) :
    IntPost w z k (.returned (.agg #[.bool s, .slice a l.length l.length])) ((w3.setCell ⟨g, 0, none⟩ v0).setCell ⟨g, 1, none⟩ v1) := by
  have h3 : w3.grownBy ((w3.setCell ⟨g, 0, none⟩ v0).setCell ⟨g, 1, none⟩ v1) (some g) := gb_set (gb_set (gb_refl _ _) _ _ (.inl rfl)) _ _ (.inl rfl)
  exact ⟨s, a, l, rfl, (ho.kept h3 (fun i e => by cases e; exact ho.off hgB)).mono hB, hn, hs, hz, hk, ha, gb_then hg h3 (fun i e => by cases e; exact hw)⟩

/-- a block that was there is there -/
theorem box_kept {w w1 : World} (k : Nat) (h : w.grownBy w1 none) (hk : k < w.heap.size) : (∀ o, w1.cell? ⟨k, o, none⟩ = w.cell? ⟨k, o, none⟩) ∧ (∀ o, w1.frozen? ⟨k, o, none⟩ = w.frozen? ⟨k, o, none⟩) ∧ k < w1.heap.size :=
  ⟨fun o => World.cell?_of_block (w := w) (h.block k hk (by simp)), fun o => World.frozen?_of_block (w := w) (h.block k hk (by simp)), Nat.lt_of_lt_of_le hk h.size⟩

end Go.Proofs.YtcmhfeeocehlaaaGreatDoor
