/-
  lay: bytes are laid from a place on.
-/
import Derived.Test.YtkbdgdcicflocaaSmall
import Derived.Lib.AppendZerosOnto
namespace Go.Proofs.Ytkbdgdcicflocaa
set_option linter.unusedSimpArgs false
set_option linter.unusedVariables false
open Go.RowKit
attribute [local go_sem ↓] Go.wp_at_zero Go.wp_at_succ

theorem zeroCells_u8 (n : Nat) : Builtin.zeroCells #[Value.int .u8 0] n = (bc (List.replicate n 0)).toArray := by
  apply Array.ext
  · simp [Builtin.zeroCells, bc]
  · intro i h1 h2
    simp [Builtin.zeroCells, bc, Nat.mod_one]

/-- a row's cells from a place on are written -/
theorem br_over {w : World} {g cap : Nat} {l : List UInt8} (h : BR w (.slice (some ⟨g, 0, none⟩) l.length cap) l) (pl : Nat) (t : List UInt8) (m : Nat) (hm : m = max l.length (pl + t.length)) (hp : pl ≤ l.length) (hc : pl + t.length ≤ cap) :
    BR (w.setCells g pl (bc t)) (.slice (some ⟨g, 0, none⟩) m cap) (l.take pl ++ t ++ l.drop (pl + t.length)) := by
  obtain ⟨hrw, hat⟩ := h
  rcases hrw with ⟨e, _⟩ | ⟨g2, cap2, e, hg, h1, h2, h3⟩
  · cases e
  · simp only [Value.slice.injEq, Option.some.injEq, Addr.mk.injEq, and_true, true_and] at e
    obtain ⟨rfl, rfl⟩ := e
    have hlen : (l.take pl ++ t ++ l.drop (pl + t.length)).length = m := by simp; omega
    have hin : ∀ j, j < (bc t).length → (w.cell? ⟨g, pl + j, none⟩).isSome = true := fun j hj => (h3 _ (by rw [bc_length] at hj; omega)).1
    have hi2 := World.cell?_setCells_in g (bc t) pl w hin
    have ho2 : ∀ j, j < pl ∨ pl + t.length ≤ j → (w.setCells g pl (bc t)).cell? ⟨g, j, none⟩ = w.cell? ⟨g, j, none⟩ := fun j hj => World.cell?_setCells_out g (bc t) pl w _ (fun _ _ => by rw [bc_length]; exact hj)
    have hrw2 : RW (w.setCells g pl (bc t)) 1 (.slice (some ⟨g, 0, none⟩) m cap) m := by
      refine .inr ⟨g, cap, rfl, by rw [(setCells_rest g (bc t) pl w).2.2.2]; exact hg, by omega, h2, fun j hj => ?_⟩
      rw [World.frozen?_setCells]
      refine ⟨?_, (h3 j hj).2⟩
      by_cases hjl : pl ≤ j ∧ j < pl + t.length
      · obtain ⟨q, rfl⟩ : ∃ q, j = pl + q := ⟨j - pl, by omega⟩
        rw [hi2 q (by rw [bc_length]; omega)]
        rfl
      · rw [ho2 j (by omega)]
        exact (h3 j hj).1
    refine ⟨by rw [hlen]; exact hrw2, fun j hj => ?_⟩
    · rw [hlen] at hj
      show (w.setCells g pl (bc t)).cell? ⟨g, j, none⟩ = _
      by_cases hj1 : j < pl
      · rw [ho2 j (.inl hj1)]
        have e : (l.take pl ++ t ++ l.drop (pl + t.length))[j] = l[j]'(by omega) := by
          rw [List.getElem_append_left (by simp; omega), List.getElem_append_left (by simp; omega), List.getElem_take]
        rw [e]
        exact hat j (by omega)
      · by_cases hj2 : j < pl + t.length
        · obtain ⟨q, rfl⟩ : ∃ q, j = pl + q := ⟨j - pl, by omega⟩
          have e : (l.take pl ++ t ++ l.drop (pl + t.length))[pl + q] = t[q]'(by omega) := by
            rw [List.getElem_append_left (by simp; omega), List.getElem_append_right (by simp; omega)]
            congr 1
            simp
            omega
          rw [hi2 q (by rw [bc_length]; omega), e]
          simp [bc]
        · rw [ho2 j (by omega)]
          have e : (l.take pl ++ t ++ l.drop (pl + t.length))[j] = l[j]'(by omega) := by
            rw [List.getElem_append_right (by simp; omega), List.getElem_drop]
            congr 1
            simp
            omega
          rw [e]
          exact hat j (by omega)

/-- 'append(v, make([]byte, n)...)' -/
theorem br_zeros2 {w : World} {v : Value} {l : List UInt8} (h : BR w v l) (n : Nat) (h0 : 0 < n) (hb : l.length + n ≤ 70368744177664) :
    ∃ v' w', (Builtin.append_ #[64, 3] 64 #[v, .int .i64 (n : Int)]).run Try.prog w = .ok v' w' ∧ BR w' v' (l ++ List.replicate n 0) ∧ w.grownBy w' v.ownBlock ∧ Goes w w' v v' := by
  obtain ⟨i, hi, hz0, hz1, hz2⟩ := info_parts u8_info
  have grow : ∀ (base : Option Addr) (cap : Nat), cap < l.length + n → (Builtin.firstCells i.size l.length (.slice base l.length cap)).run Try.prog w.drew = .ok (bc l).toArray w.drew → ∀ row,
      ∃ v' w', (Builtin.append_ #[64, 3] 64 #[.slice base l.length cap, .int .i64 (n : Int)]).run Try.prog w = .ok v' w' ∧ BR w' v' (l ++ List.replicate n 0) ∧ w.grownBy w' row ∧ v'.ownBlock = some w.heap.size := by
    intro base cap hc hold row
    have hfit : Builtin.nextslicecap (l.length + n) cap * i.bytes ≤ 281474976710656 := growslice_fits hc (by rw [hz2]; omega)
    have hr := Lib.run_append_grow_zeros (P := Try.prog) w 64 3 64 5 i (.int .u8 0) .i64 .i64 Try.underlying64 Try.underlying3 hi hz0 base l.length cap (bc l) hold n h0 (by omega) hc (by omega) (by rw [hz2]; omega) hfit
    have hge := grownCap_ge w (l.length + n) cap 5
    have hcm := grownCap_le_maxLen w (l.length + n) cap 5 (by unfold maxLen; omega)
    have e1 : (Value.int .u8 0).cells = #[Value.int .u8 0] := rfl
    rw [e1, zeroCells_u8 n] at hr
    obtain ⟨C, hC⟩ : ∃ C, (bc l).toArray ++ (bc (List.replicate n 0)).toArray ++ Builtin.zeroCells #[Value.int .u8 0] (grownCap w (l.length + n) cap 5 - (l.length + n)) = C := ⟨_, rfl⟩
    rw [hC] at hr
    have hsz : C.size = grownCap w (l.length + n) cap 5 := by
      rw [← hC]
      simp only [Array.size_append, List.size_toArray, bc_length, size_zeroCells, List.length_replicate]
      simp
      omega
    have hCj : ∀ j (hj : j < (l ++ List.replicate n (0 : UInt8)).length), C[j]? = some (.int .u8 ((l ++ List.replicate n (0 : UInt8))[j].toNat : Int)) := fun j hj => by
      have e2 : (bc l).toArray ++ (bc (List.replicate n 0)).toArray = (bc (l ++ List.replicate n 0)).toArray := by rw [bc_append]; simp
      rw [← hC, e2, Array.getElem?_append_left (by simpa [bc] using hj), List.getElem?_toArray, bc, List.getElem?_map, List.getElem?_eq_getElem hj]
      rfl
    have hnew : ∀ j, (w.drew.alloc (.cells C 5)).cell? ⟨w.heap.size, j, none⟩ = C[j]? := fun j => World.cell?_alloc_mark w.drew _ _ _ j
    have hh : (w.drew.alloc (.cells C 5)).heap[w.heap.size]? = some (.cells C 5 (0, 0)) := heap_alloc_new w.drew (.cells C 5)
    refine ⟨_, _, hr, ⟨?_, fun j hj => (hnew j).trans (hCj j hj)⟩, ⟨rfl, rfl, rfl, by simp, fun k hk _ => Below.heap_alloc w.drew _ k hk⟩, rfl⟩
    rw [List.length_append, List.length_replicate]
    refine .inr ⟨w.heap.size, _, rfl, by simp, hge, hcm, fun j hj => ?_⟩
    rw [hnew]
    refine ⟨?_, ?_⟩
    · rw [Array.getElem?_eq_getElem (by rw [hsz]; omega)]; rfl
    · simp only [World.frozen?, hh]
      simp
  have hwr : IntKind.i64.wrap (n : Int) = (n : Int) := by rw [IntKind.wrap_i64]; omega
  obtain ⟨hrw, hat⟩ := h
  rcases hrw with ⟨rfl, e⟩ | ⟨g, cap, rfl, hg, h1, h2, h3⟩
  · obtain rfl := List.length_eq_zero_iff.1 e
    obtain ⟨v', w', hr, hbr, hgr, hown⟩ := grow none 0 (by simp; omega) (by simp [Builtin.firstCells, bc]) none
    exact ⟨v', w', hr, hbr, hgr, .inr ⟨hown, hgr⟩⟩
  · have hbr : BR w (.slice (some ⟨g, 0, none⟩) l.length cap) l := ⟨.inr ⟨g, cap, rfl, hg, h1, h2, h3⟩, hat⟩
    by_cases hroom : l.length + n ≤ cap
    · have hst := run_storeCells_cells (P := Try.prog) g l.length (bc (List.replicate n 0)) 0 w (fun j hj => by rw [bc_length, List.length_replicate] at hj; exact (h3 _ (by omega)).1) (fun j hj => by rw [bc_length, List.length_replicate] at hj; exact (h3 _ (by omega)).2) (bc_one _)
      have hr : (Builtin.append_ #[64, 3] 64 #[.slice (some ⟨g, 0, none⟩) l.length cap, .int .i64 (n : Int)]).run Try.prog w = .ok (.slice (some ⟨g, 0, none⟩) (l.length + n) cap) (w.setCells g l.length (bc (List.replicate n 0))) := by
        have hneg : ¬ ((n : Int) < 0) := by omega
        have h48i : ¬ (281474976710656 < (n : Int) * ((1 : Nat) : Int)) := by omega
        have hns : ¬ (n = 0) := by omega
        have hz : Builtin.zeroCells (Value.int .u8 0).cells n = (bc (List.replicate n 0)).toArray := zeroCells_u8 n
        have hst' : (storeCells ⟨g, l.length, none⟩ (bc (List.replicate n 0)) 0).run Try.prog w = .ok () (w.setCells g l.length (bc (List.replicate n 0))) := hst
        simp [Builtin.append_, run_underlying Try.underlying64, run_underlying Try.underlying3, sizeOf, typeInfo, zeroValue, hi, hz0, hz1, hz2, asInt, asIntOf, hwr, hneg, h48i, hns, hroom, hz, Addr.add_lit, hst']
        omega
      refine ⟨_, _, hr, ?_, setCells_grown g _ _ w, .inl ⟨_, _, _, cap, rfl, rfl, by omega⟩⟩
      have := br_over hbr l.length (List.replicate n 0) (l.length + n) (by simp) (Nat.le_refl _) (by simpa using hroom)
      rw [List.length_replicate, List.drop_of_length_le (by omega), List.append_nil, List.take_length] at this
      exact this
    · obtain ⟨v', w', hr, hbr, hgr, hown⟩ := grow (some ⟨g, 0, none⟩) cap (by omega) (by
        refine run_firstCells_some (P := Try.prog) w.drew i.size l.length ⟨g, 0, none⟩ l.length cap (bc l) (by rw [hz1, bc_length, Nat.mul_one]) (fun j u hu => ?_)
        rw [addr_add]
        have hj : j < l.length := by
          have := (List.getElem?_eq_some_iff.1 hu).1
          simpa [bc] using this
        have := hat j hj
        rw [bc, List.getElem?_map, List.getElem?_eq_getElem hj] at hu
        rw [← Option.some.inj hu]
        exact this) none
      exact ⟨v', w', hr, hbr, ⟨hgr.os, hgr.tape, hgr.output, hgr.size, fun k hk _ => hgr.block k hk (by simp)⟩, .inr ⟨hown, hgr⟩⟩
end Go.Proofs.Ytkbdgdcicflocaa
