/-
  The reference's lay: a new file, by rising names.
-/
import Derived.Test.YtkbdgdcicflocaaRefC
import Derived.BigRegion
namespace Go.Proofs.Ytkbdgdcicflocaa
set_option linter.unusedSimpArgs false
set_option linter.unusedVariables false
open Go.RowKit
attribute [local go_sem ↓] Go.wp_at_zero Go.wp_at_succ

theorem bless : ∀ (x y : List UInt8), Op.bytesLess x y = decide (x < y)
  | [], [] => by simp [Op.bytesLess]
  | _ :: _, [] => by simp [Op.bytesLess]
  | [], _ :: _ => by simp [Op.bytesLess]
  | a :: x, b :: y => by
    rw [Op.bytesLess, bless x y, Bool.eq_iff_iff]
    simp only [Bool.or_eq_true, Bool.and_eq_true, decide_eq_true_iff, beq_iff_eq, List.cons_lt_cons_iff]
/-- Block g holds n + 1 pairs of a name and bytes, all else is as it was in wb. -/
structure RowAt (wb wr : World) (g n : Nat) (E : Nat → ByteArray × Value) : Prop where
  tn : Tn (fun k => k = g) wb wr
  size : wr.heap.size = wb.heap.size
  oth : ∀ k, k ≠ g → wr.heap[k]? = wb.heap[k]?
  c : ∀ j, j ≤ n → wr.cell? ⟨g, j * 2, none⟩ = some (.string (E j).1) ∧ wr.cell? ⟨g, j * 2 + 1, none⟩ = some (E j).2
  some' : ∀ i, (wb.cell? ⟨g, i, none⟩).isSome = true → (wr.cell? ⟨g, i, none⟩).isSome = true
  fz : ∀ i, wr.frozen? ⟨g, i, none⟩ = wb.frozen? ⟨g, i, none⟩
/-- the new pair stands at place p -/
def ins (E : Nat → ByteArray × Value) (x : ByteArray × Value) (p : Nat) : Nat → ByteArray × Value := fun j => if j < p then E j else if j = p then x else E (j - 1)

theorem cell_ne {w : World} {g h i j : Nat} {v : Value} (hn : g ≠ h ∨ i ≠ j) : (w.setCell ⟨h, j, none⟩ v).cell? ⟨g, i, none⟩ = w.cell? ⟨g, i, none⟩ :=
  World.cell?_setCell_other w _ _ _ (by intro e; cases e; rcases hn with h | h <;> exact h rfl)
theorem cell_same {w : World} {g i : Nat} {v : Value} (hs : (w.cell? ⟨g, i, none⟩).isSome = true) : (w.setCell ⟨g, i, none⟩ v).cell? ⟨g, i, none⟩ = some v := by
  obtain ⟨u, hu⟩ := Option.isSome_iff_exists.1 hs
  exact World.cell?_setCell_same _ _ _ hu
theorem cell_some {w : World} {g h i j : Nat} {v : Value} (hs : (w.cell? ⟨g, i, none⟩).isSome = true) : ((w.setCell ⟨h, j, none⟩ v).cell? ⟨g, i, none⟩).isSome = true := by
  by_cases hn : g ≠ h ∨ i ≠ j
  · rw [cell_ne hn]; exact hs
  · obtain ⟨rfl, rfl⟩ : g = h ∧ i = j := ⟨by omega, by omega⟩
    rw [cell_same hs]; rfl
/-- two neighbours change places -/
theorem RowAt.swap {wb wr : World} {g n m : Nat} {E : Nat → ByteArray × Value} {x : ByteArray × Value} (h : RowAt wb wr g n (ins E x (m + 1))) (hm : m + 1 ≤ n) :
    RowAt wb ((((wr.setCell ⟨g, (m + 1) * 2, none⟩ (.string (E m).1)).setCell ⟨g, (m + 1) * 2 + 1, none⟩ (E m).2).setCell ⟨g, m * 2, none⟩ (.string x.1)).setCell ⟨g, m * 2 + 1, none⟩ x.2) g n (ins E x m) := by
  have s : ∀ j, j ≤ n → (wr.cell? ⟨g, j * 2, none⟩).isSome = true ∧ (wr.cell? ⟨g, j * 2 + 1, none⟩).isSome = true := fun j hj => by
    obtain ⟨a, b⟩ := h.c j hj
    rw [a, b]; exact ⟨rfl, rfl⟩
  have hb : ∀ k v i, k ≠ g → (World.setCell wr ⟨g, i, none⟩ v).heap[k]? = wr.heap[k]? := fun k v i hk => Below.heap_setCell _ _ _ _ hk
  refine ⟨((((h.tn.set _ _ (fun _ => rfl)).set _ _ (fun _ => rfl)).set _ _ (fun _ => rfl)).set _ _ (fun _ => rfl)), ?_, fun k hk => ?_, fun j hj => ?_, fun i hi => ?_, fun i => ?_⟩
  · simp [h.size]
  · rw [Below.heap_setCell _ _ _ _ hk, Below.heap_setCell _ _ _ _ hk, Below.heap_setCell _ _ _ _ hk, Below.heap_setCell _ _ _ _ hk]
    exact h.oth k hk
  · obtain ⟨c0, c1⟩ := h.c j hj
    rcases (show j = m ∨ j = m + 1 ∨ (j ≠ m ∧ j ≠ m + 1) by omega) with rfl | rfl | hne
    · have e : ins E x j j = x := by simp [ins]
      rw [e]
      refine ⟨?_, ?_⟩
      · rw [cell_ne (by omega)]
        exact cell_same (cell_some (cell_some (s j (by omega)).1))
      · exact cell_same (cell_some (cell_some (cell_some (s j (by omega)).2)))
    · have e : ins E x m (m + 1) = E m := by unfold ins; rw [if_neg (by omega), if_neg (by omega)]; rfl
      rw [e]
      refine ⟨?_, ?_⟩
      · rw [cell_ne (by omega), cell_ne (by omega), cell_ne (by omega)]
        exact cell_same (s (m + 1) (by omega)).1
      · rw [cell_ne (by omega), cell_ne (by omega)]
        exact cell_same (cell_some (s (m + 1) (by omega)).2)
    · have e : ins E x m j = ins E x (m + 1) j := by
        unfold ins
        by_cases h1 : j < m
        · rw [if_pos h1, if_pos (by omega)]
        · rw [if_neg h1, if_neg hne.1, if_neg (by omega), if_neg hne.2]
      rw [e]
      refine ⟨?_, ?_⟩
      · rw [cell_ne (by omega), cell_ne (by omega), cell_ne (by omega), cell_ne (by omega)]; exact c0
      · rw [cell_ne (by omega), cell_ne (by omega), cell_ne (by omega), cell_ne (by omega)]; exact c1
  · exact cell_some (cell_some (cell_some (cell_some (h.some' i hi))))
  · rw [World.frozen?_setCell, World.frozen?_setCell, World.frozen?_setCell, World.frozen?_setCell]
    exact h.fz i
theorem RowAt.drew {wb wr : World} {g n : Nat} {E : Nat → ByteArray × Value} (h : RowAt wb wr g n E) : RowAt wb wr.drew g n E := ⟨h.tn.drew, h.size, h.oth, h.c, h.some', h.fz⟩
theorem RowAt.drewN {wb wr : World} {g n : Nat} {E : Nat → ByteArray × Value} (h : RowAt wb wr g n E) (k : Nat) : RowAt wb (wr.drewN k) g n E := ⟨h.tn.drewN k, h.size, h.oth, h.c, h.some', h.fz⟩
end Go.Proofs.Ytkbdgdcicflocaa
namespace Go.Proofs.Ytkbdgdcicflocaa
set_option linter.unusedSimpArgs false
set_option linter.unusedVariables false
open Go.RowKit
attribute [local go_sem ↓] Go.wp_at_zero Go.wp_at_succ

theorem u8_tri (a b : UInt8) : a < b ∨ a = b ∨ b < a := by
  rcases Nat.lt_trichotomy a.toNat b.toNat with h | h | h
  · exact .inl h
  · exact .inr (.inl (UInt8.toNat_inj.1 h))
  · exact .inr (.inr h)
theorem list_tri : ∀ a b : List UInt8, a < b ∨ a = b ∨ b < a
  | [], [] => .inr (.inl rfl)
  | [], _ :: _ => .inl (by simp)
  | _ :: _, [] => .inr (.inr (by simp))
  | a :: x, b :: y => by
    simp only [List.cons_lt_cons_iff]
    rcases u8_tri a b with h | h | h
    · exact .inl (.inl h)
    · subst h
      rcases list_tri x y with k | k | k
      · exact .inl (.inr ⟨rfl, k⟩)
      · exact .inr (.inl (by rw [k]))
      · exact .inr (.inr (.inr ⟨rfl, k⟩))
    · exact .inr (.inr (.inl h))

/-- the files with a new one at place p -/
def insF (fl : List (ByteArray × List UInt8)) (f : ByteArray × List UInt8) (p : Nat) : List (ByteArray × List UInt8) := fl.take p ++ f :: fl.drop p
theorem insF_length (fl : List (ByteArray × List UInt8)) (f : ByteArray × List UInt8) (p : Nat) (hp : p ≤ fl.length) : (insF fl f p).length = fl.length + 1 := by
  simp [insF]; omega
theorem insF_at (fl : List (ByteArray × List UInt8)) (f : ByteArray × List UInt8) (p : Nat) (hp : p ≤ fl.length) (j : Nat) : (insF fl f p)[j]? = if j < p then fl[j]? else if j = p then some f else fl[j - 1]? := by
  have ht : (fl.take p).length = p := by simp; omega
  unfold insF
  by_cases h1 : j < p
  · rw [if_pos h1, List.getElem?_append_left (by omega), List.getElem?_take, if_pos h1]
  · rw [if_neg h1, List.getElem?_append_right (by omega), ht]
    by_cases h2 : j = p
    · rw [if_pos h2, h2, Nat.sub_self]; rfl
    · rw [if_neg h2]
      obtain ⟨k, rfl⟩ : ∃ k, j = p + 1 + k := ⟨j - p - 1, by omega⟩
      rw [show p + 1 + k - p = k + 1 by omega, List.getElem?_cons_succ, List.getElem?_drop]
      congr 1
      omega
theorem insF_get (fl : List (ByteArray × List UInt8)) (f : ByteArray × List UInt8) (p : Nat) (hp : p ≤ fl.length) (j : Nat) (hj : j < (insF fl f p).length) :
    (j < p → ∃ h : j < fl.length, (insF fl f p)[j] = fl[j]) ∧ (j = p → (insF fl f p)[j] = f) ∧ (p < j → ∃ h : j - 1 < fl.length, (insF fl f p)[j] = fl[j - 1]) := by
  have hl := insF_length fl f p hp
  have ha := insF_at fl f p hp j
  rw [List.getElem?_eq_getElem hj] at ha
  refine ⟨fun h => ⟨by omega, ?_⟩, fun h => ?_, fun h => ⟨by omega, ?_⟩⟩
  · rw [if_pos h, List.getElem?_eq_getElem (by omega)] at ha; exact Option.some.inj ha
  · rw [if_neg (by omega), if_pos h] at ha; exact Option.some.inj ha
  · rw [if_neg (by omega), if_neg (by omega), List.getElem?_eq_getElem (by omega)] at ha; exact Option.some.inj ha
theorem insF_up {fl : List (ByteArray × List UInt8)} {f : ByteArray × List UInt8} {p : Nat} (h : fl.Pairwise (fun a b => a.1.data.toList < b.1.data.toList)) (h1 : ∀ x ∈ fl.take p, x.1.data.toList < f.1.data.toList) (h2 : ∀ x ∈ fl.drop p, f.1.data.toList < x.1.data.toList) : (insF fl f p).Pairwise (fun a b => a.1.data.toList < b.1.data.toList) := by
  unfold insF
  rw [← List.take_append_drop p fl, List.pairwise_append] at h
  rw [List.pairwise_append, List.pairwise_cons]
  refine ⟨h.1, ⟨h2, h.2.1⟩, fun a ha b hb => ?_⟩
  rcases List.mem_cons.1 hb with rfl | hb
  · exact h1 a ha
  · exact h.2.2 a ha b hb
theorem insF_fs {fl : List (ByteArray × List UInt8)} {f : ByteArray × List UInt8} {p : Nat} (hno : ∀ x ∈ fl, x.1.data.toList ≠ f.1.data.toList) : fsOf (insF fl f p) = fun x => if x = f.1.data.toList then some f.2 else fsOf fl x := by
  funext x
  unfold fsOf insF
  have hsplit : fl.find? (fun g => decide (g.1.data.toList = x)) = (fl.take p ++ fl.drop p).find? (fun g => decide (g.1.data.toList = x)) := by rw [List.take_append_drop]
  rw [hsplit, List.find?_append, List.find?_append, List.find?_cons]
  by_cases hx : f.1.data.toList = x
  · rw [if_pos hx.symm]
    have hn : (fl.take p).find? (fun g => decide (g.1.data.toList = x)) = none := by
      rw [List.find?_eq_none]
      intro y hy
      have := hno y (List.mem_of_mem_take hy)
      rw [hx] at this
      simpa using this
    rw [hn]
    simp [hx]
  · rw [if_neg (fun e => hx e.symm)]
    simp only [hx, decide_false]

/-- pairs of names and slices -/
def pairs (fl : List (ByteArray × List UInt8)) (bv : Nat → Value) : Nat → ByteArray × Value := fun j => ((fl.getD j (⟨#[]⟩, [])).1, bv j)
theorem pairs_get {fl : List (ByteArray × List UInt8)} {bv : Nat → Value} {j : Nat} (h : j < fl.length) : (pairs fl bv j).1 = fl[j].1 := by
  simp [pairs, List.getD_eq_getElem?_getD, List.getElem?_eq_getElem h]

theorem fi_info : (Try.prog.info? 89).map (fun i => (i.zero, i.size, i.bytes)) = some (some (.agg #[.string ⟨#[]⟩, .slice none 0 0]), 2, 40) := by kernel_rfl

/-- a pair goes behind the others, and the slice is written to the world -/
theorem RX.addFile {w : World} {q : Nat} {L : Nat → Option Lab} {N : Nat} {S : St} {fl : List (ByteArray × List UInt8)} {d : Dk} {lv tv : Value} {bv : Nat → Value} (h : RX w q L N S fl d lv tv bv) (hN : N + 1 ≤ 1099511627776) (nm : ByteArray) (ba : Option Addr) (bn bc' : Nat) :
    ∃ g cap wa, (Builtin.append_ #[73, 73] 73 #[lv, .slice (some ⟨w.heap.size, 0, none⟩) 1 1]).run Try.prog (w.alloc (.cells #[.string nm, .slice ba bn bc'] 89)) = .ok (.slice (some ⟨g, 0, none⟩) (fl.length + 1) cap) wa ∧
      wa.cell? ⟨q, 0, none⟩ = some lv ∧ (∀ i, wa.frozen? ⟨q, i, none⟩ = false) ∧ q < wa.heap.size ∧ g < wa.heap.size ∧ fl.length + 1 ≤ cap ∧ cap ≤ 9223372036854775807 ∧ g ≠ q ∧ g ≠ d ∧ (L g = some .mp ∨ (L g = none ∧ w.heap.size ≤ g)) ∧
      RW (wa.setCell ⟨q, 0, none⟩ (.slice (some ⟨g, 0, none⟩) (fl.length + 1) cap)) 2 (.slice (some ⟨g, 0, none⟩) (fl.length + 1) cap) (fl.length + 1) ∧
      RowAt (wa.setCell ⟨q, 0, none⟩ (.slice (some ⟨g, 0, none⟩) (fl.length + 1) cap)) (wa.setCell ⟨q, 0, none⟩ (.slice (some ⟨g, 0, none⟩) (fl.length + 1) cap)) g fl.length (ins (pairs fl bv) (nm, .slice ba bn bc') fl.length) ∧
      (∀ k, L k ≠ none → L k ≠ some .mp → k ≠ q → (wa.setCell ⟨q, 0, none⟩ (.slice (some ⟨g, 0, none⟩) (fl.length + 1) cap)).heap[k]? = w.heap[k]?) ∧
      (∀ i, i ≠ 0 → (wa.setCell ⟨q, 0, none⟩ (.slice (some ⟨g, 0, none⟩) (fl.length + 1) cap)).cell? ⟨q, i, none⟩ = w.cell? ⟨q, i, none⟩) ∧
      Tn (fun k => L k ≠ none) w (wa.setCell ⟨q, 0, none⟩ (.slice (some ⟨g, 0, none⟩) (fl.length + 1) cap)) := by
  obtain ⟨W, hW⟩ : ∃ W, w.alloc (.cells #[.string nm, .slice ba bn bc'] 89) = W := ⟨_, rfl⟩
  have tW : Tn No w W := by rw [← hW]; exact (Tn.refl No w).alloc _
  have hzW : W.heap.size = w.heap.size + 1 := by rw [← hW]; simp
  have hcW : ∀ j, W.cell? ⟨w.heap.size, j, none⟩ = (#[.string nm, .slice ba bn bc'] : Array Value)[j]? := fun j => by rw [← hW, World.cell?_alloc_at _ _ _ _ (by simp)]
  rw [hW]
  have hx1 := h.no tW
  obtain ⟨i, hi, hz0, hz1, hz2⟩ := info_parts fi_info
  have hsrc : Src Try.prog 2 73 (.slice (some ⟨w.heap.size, 0, none⟩) 1 1) 1 [.string nm, .slice ba bn bc'] W :=
    Src.ofSlice _ Try.underlying73 _ 1 1 _ rfl (fun j u hu => by rw [addr_add, hcW]; simpa using hu) (fun u hu => by simp at hu; rcases hu with rfl | rfl <;> rfl)
  have hlen := h.len
  obtain ⟨v', wa, hr, hrw, hold, hnew, hgr, hown⟩ := rw_append 73 89 i _ 2 40 Try.underlying73 hi hz0 hz1 hz2 rfl hx1.row hsrc (by unfold maxLen; omega) (by omega) (by omega)
  obtain ⟨g, cap, rfl, hg, hnc, hcm, hfz⟩ := hrw.pos (by omega)
  have hg2 : L g = some .mp ∨ g = W.heap.size := by
    rcases hown with e | e
    · left; exact h.labl g e.symm
    · right; exact Option.some.inj e
  have hgq : g ≠ q := by
    rintro rfl
    rcases hg2 with e | e
    · rw [h.labs] at e; cases e
    · have := hx1.qlt; omega
  have hgd : g ≠ d := by
    rintro rfl
    rcases hg2 with e | e
    · rw [h.labd] at e; cases e
    · have := hx1.dlt; omega
  have hk : ∀ k, L k ≠ none → L k ≠ some .mp → wa.heap[k]? = W.heap[k]? := fun k h1 h2 => hgr.block k (hx1.lt k h1) (fun e => h2 (h.labl k e.symm))
  have hq := hk q (by rw [h.labs]; simp) (by rw [h.labs]; simp)
  have cq : ∀ i, wa.cell? ⟨q, i, none⟩ = W.cell? ⟨q, i, none⟩ := fun i => World.cell?_of_block (w := W) (a := ⟨q, i, none⟩) hq
  have cw : ∀ i, W.cell? ⟨q, i, none⟩ = w.cell? ⟨q, i, none⟩ := fun i => tW.cell h.qlt (fun e => e)
  have fq : ∀ i, wa.frozen? ⟨q, i, none⟩ = false := fun i => by
    have := hx1.fz i
    simp only [World.frozen?, hq] at this ⊢
    exact this
  have c0 : wa.cell? ⟨q, 0, none⟩ = some lv := (cq 0).trans hx1.c0
  obtain ⟨wb, hwb⟩ : ∃ wb, wa.setCell ⟨q, 0, none⟩ (.slice (some ⟨g, 0, none⟩) (fl.length + 1) cap) = wb := ⟨_, rfl⟩
  have hob : ∀ k, k ≠ q → wb.heap[k]? = wa.heap[k]? := fun k hk => by rw [← hwb]; exact Below.heap_setCell _ _ _ _ hk
  have hzb : wb.heap.size = wa.heap.size := by rw [← hwb]; simp
  have cb : ∀ i, wb.cell? ⟨g, i, none⟩ = wa.cell? ⟨g, i, none⟩ := fun i => World.cell?_of_block (w := wa) (a := ⟨g, i, none⟩) (hob g hgq)
  have hrb : RW wb 2 (.slice (some ⟨g, 0, none⟩) (fl.length + 1) cap) (fl.length + 1) := hrw.kept (fun k e => by cases e; exact hob g hgq)
  refine ⟨g, cap, wa, hr, c0, fq, Nat.lt_of_lt_of_le hx1.qlt hgr.size, hg, hnc, hcm, hgq, hgd, ?_, ?_, ?_, ?_, ?_, ?_⟩
  · rcases hg2 with e | e
    · exact .inl e
    · right
      refine ⟨?_, by omega⟩
      cases hl : L g with
      | none => rfl
      | some x => have := h.lt g (by rw [hl]; simp); omega
  · rw [hwb]; exact hrb
  · rw [hwb]
    refine ⟨Tn.refl _ _, rfl, fun _ _ => rfl, fun j hj => ?_, fun _ h => h, fun _ => rfl⟩
    rw [cb, cb]
    by_cases hjl : j < fl.length
    · have e : ins (pairs fl bv) (nm, .slice ba bn bc') fl.length j = pairs fl bv j := by unfold ins; rw [if_pos hjl]
      obtain ⟨a1, a2, _⟩ := hx1.lc j hjl
      rw [e, pairs_get hjl]
      have o1 : wa.cell? ⟨g, j * 2, none⟩ = vc W lv (j * 2) := hold (j * 2) (by omega)
      have o2 : wa.cell? ⟨g, j * 2 + 1, none⟩ = vc W lv (j * 2 + 1) := hold (j * 2 + 1) (by omega)
      rw [o1, o2, Nat.mul_comm j 2]
      exact ⟨a1, a2⟩
    · obtain rfl : j = fl.length := by omega
      have e : ins (pairs fl bv) (nm, .slice ba bn bc') fl.length fl.length = (nm, .slice ba bn bc') := by simp [ins]
      rw [e]
      have o1 : wa.cell? ⟨g, fl.length * 2 + 0, none⟩ = _ := hnew 0 (by simp)
      have o2 : wa.cell? ⟨g, fl.length * 2 + 1, none⟩ = _ := hnew 1 (by simp)
      exact ⟨o1, o2⟩
  · rw [hwb]
    intro k h1 h2 h3
    rw [hob k h3, hk k h1 h2]
    exact tW.block k (h.lt k h1) (fun e => e)
  · intro i hi
    rw [World.cell?_setCell_other _ _ _ _ (by intro e; cases e; exact hi rfl), cq, cw]
  · exact ((tW.any).grown hgr (fun i e _ => by rw [h.labl i e]; simp)).set _ _ (fun _ => by rw [h.labs]; simp)
end Go.Proofs.Ytkbdgdcicflocaa
