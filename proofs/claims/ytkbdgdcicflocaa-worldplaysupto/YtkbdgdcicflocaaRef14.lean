/-
  The reference's lay: a new file, by rising names.
-/
import Derived.Test.YtkbdgdcicflocaaRefC
import Derived.BigRegion
namespace Go.Proofs.Ytkbdgdcicflocaa
set_option linter.unusedSimpArgs false
set_option linter.unusedVariables false
open Go.RowKit
attribute [local go_sem ↓] Go.wp_at_zero Go.wp_at_succ

theorem bless : ∀ (x y : List UInt8), Op.bytesLess x y = decide (x < y)
  | [], [] => by simp [Op.bytesLess]
  | _ :: _, [] => by simp [Op.bytesLess]
  | [], _ :: _ => by simp [Op.bytesLess]
  | a :: x, b :: y => by
    rw [Op.bytesLess, bless x y, Bool.eq_iff_iff]
    simp only [Bool.or_eq_true, Bool.and_eq_true, decide_eq_true_iff, beq_iff_eq, List.cons_lt_cons_iff]
/-- Block g holds n + 1 pairs of a name and bytes, all else is as it was in wb. -/
structure RowAt (wb wr : World) (g n : Nat) (E : Nat → ByteArray × Value) : Prop where
  tn : Tn (fun k => k = g) wb wr
  size : wr.heap.size = wb.heap.size
  oth : ∀ k, k ≠ g → wr.heap[k]? = wb.heap[k]?
  c : ∀ j, j ≤ n → wr.cell? ⟨g, j * 2, none⟩ = some (.string (E j).1) ∧ wr.cell? ⟨g, j * 2 + 1, none⟩ = some (E j).2
  some' : ∀ i, (wb.cell? ⟨g, i, none⟩).isSome = true → (wr.cell? ⟨g, i, none⟩).isSome = true
  fz : ∀ i, wr.frozen? ⟨g, i, none⟩ = wb.frozen? ⟨g, i, none⟩
/-- the new pair stands at place p -/
def ins (E : Nat → ByteArray × Value) (x : ByteArray × Value) (p : Nat) : Nat → ByteArray × Value := fun j => if j < p then E j else if j = p then x else E (j - 1)

theorem cell_ne {w : World} {g h i j : Nat} {v : Value} (hn : g ≠ h ∨ i ≠ j) : (w.setCell ⟨h, j, none⟩ v).cell? ⟨g, i, none⟩ = w.cell? ⟨g, i, none⟩ :=
  World.cell?_setCell_other w _ _ _ (by intro e; cases e; rcases hn with h | h <;> exact h rfl)
theorem cell_same {w : World} {g i : Nat} {v : Value} (hs : (w.cell? ⟨g, i, none⟩).isSome = true) : (w.setCell ⟨g, i, none⟩ v).cell? ⟨g, i, none⟩ = some v := by
  obtain ⟨u, hu⟩ := Option.isSome_iff_exists.1 hs
  exact World.cell?_setCell_same _ _ _ hu
theorem cell_some {w : World} {g h i j : Nat} {v : Value} (hs : (w.cell? ⟨g, i, none⟩).isSome = true) : ((w.setCell ⟨h, j, none⟩ v).cell? ⟨g, i, none⟩).isSome = true := by
  by_cases hn : g ≠ h ∨ i ≠ j
  · rw [cell_ne hn]; exact hs
  · obtain ⟨rfl, rfl⟩ : g = h ∧ i = j := ⟨by omega, by omega⟩
    rw [cell_same hs]; rfl
/-- two neighbours change places -/
theorem RowAt.swap {wb wr : World} {g n m : Nat} {E : Nat → ByteArray × Value} {x : ByteArray × Value} (h : RowAt wb wr g n (ins E x (m + 1))) (hm : m + 1 ≤ n) :
    RowAt wb ((((wr.setCell ⟨g, (m + 1) * 2, none⟩ (.string (E m).1)).setCell ⟨g, (m + 1) * 2 + 1, none⟩ (E m).2).setCell ⟨g, m * 2, none⟩ (.string x.1)).setCell ⟨g, m * 2 + 1, none⟩ x.2) g n (ins E x m) := by
  have s : ∀ j, j ≤ n → (wr.cell? ⟨g, j * 2, none⟩).isSome = true ∧ (wr.cell? ⟨g, j * 2 + 1, none⟩).isSome = true := fun j hj => by
    obtain ⟨a, b⟩ := h.c j hj
    rw [a, b]; exact ⟨rfl, rfl⟩
  have hb : ∀ k v i, k ≠ g → (World.setCell wr ⟨g, i, none⟩ v).heap[k]? = wr.heap[k]? := fun k v i hk => Below.heap_setCell _ _ _ _ hk
  refine ⟨((((h.tn.set _ _ (fun _ => rfl)).set _ _ (fun _ => rfl)).set _ _ (fun _ => rfl)).set _ _ (fun _ => rfl)), ?_, fun k hk => ?_, fun j hj => ?_, fun i hi => ?_, fun i => ?_⟩
  · simp [h.size]
  · rw [Below.heap_setCell _ _ _ _ hk, Below.heap_setCell _ _ _ _ hk, Below.heap_setCell _ _ _ _ hk, Below.heap_setCell _ _ _ _ hk]
    exact h.oth k hk
  · obtain ⟨c0, c1⟩ := h.c j hj
    rcases (show j = m ∨ j = m + 1 ∨ (j ≠ m ∧ j ≠ m + 1) by omega) with rfl | rfl | hne
    · have e : ins E x j j = x := by simp [ins]
      rw [e]
      refine ⟨?_, ?_⟩
      · rw [cell_ne (by omega)]
        exact cell_same (cell_some (cell_some (s j (by omega)).1))
      · exact cell_same (cell_some (cell_some (cell_some (s j (by omega)).2)))
    · have e : ins E x m (m + 1) = E m := by unfold ins; rw [if_neg (by omega), if_neg (by omega)]; rfl
      rw [e]
      refine ⟨?_, ?_⟩
      · rw [cell_ne (by omega), cell_ne (by omega), cell_ne (by omega)]
        exact cell_same (s (m + 1) (by omega)).1
      · rw [cell_ne (by omega), cell_ne (by omega)]
        exact cell_same (cell_some (s (m + 1) (by omega)).2)
    · have e : ins E x m j = ins E x (m + 1) j := by
        unfold ins
        by_cases h1 : j < m
        · rw [if_pos h1, if_pos (by omega)]
        · rw [if_neg h1, if_neg hne.1, if_neg (by omega), if_neg hne.2]
      rw [e]
      refine ⟨?_, ?_⟩
      · rw [cell_ne (by omega), cell_ne (by omega), cell_ne (by omega), cell_ne (by omega)]; exact c0
      · rw [cell_ne (by omega), cell_ne (by omega), cell_ne (by omega), cell_ne (by omega)]; exact c1
  · exact cell_some (cell_some (cell_some (cell_some (h.some' i hi))))
  · rw [World.frozen?_setCell, World.frozen?_setCell, World.frozen?_setCell, World.frozen?_setCell]
    exact h.fz i
theorem RowAt.drew {wb wr : World} {g n : Nat} {E : Nat → ByteArray × Value} (h : RowAt wb wr g n E) : RowAt wb wr.drew g n E := ⟨h.tn.drew, h.size, h.oth, h.c, h.some', h.fz⟩
theorem RowAt.drewN {wb wr : World} {g n : Nat} {E : Nat → ByteArray × Value} (h : RowAt wb wr g n E) (k : Nat) : RowAt wb (wr.drewN k) g n E := ⟨h.tn.drewN k, h.size, h.oth, h.c, h.some', h.fz⟩
end Go.Proofs.Ytkbdgdcicflocaa
