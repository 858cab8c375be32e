/-
  strings.Clone: the same bytes, in new memory; strings.TrimLeft at one byte.
-/
import Derived.Test.YtcmhfeeocehlaaaGreatDoorBlanks
import Derived.Lib.UnsafeStr
import Derived.Lib.BufferWrite
import Derived.Laws.MakeOwn
namespace Go.Proofs.YtcmhfeeocehlaaaGreatDoor
set_option linter.unusedSimpArgs false
set_option linter.unusedVariables false
open Go.RowKit Go.PlainAid
attribute [local go_sem ↓] Go.wp_at_zero Go.wp_at_succ

theorem Tn.of_below {a b : World} (h : Below a.heap.size a b) : Tn No a b := ⟨h.os, h.tape, h.output, h.size, fun k hk _ => h.block k hk⟩
theorem empty_of_size {s : ByteArray} (h : s.size = 0) : s = ⟨#[]⟩ := ByteArray.ext (Array.eq_empty_of_size_eq_zero h)

set_option maxHeartbeats 2000000 in
set_option maxRecDepth 100000 in
theorem sclone_raw (s : ByteArray) (w : World) (hs : s.size ≤ 281474976710656) : Calls Tryz.prog 76 #[.string s] w fun e w' => e = .returned (.string s) ∧ Tn No w w' := by
  by_cases h0 : s.size = 0
  · rw [empty_of_size h0]
    go_enter Tryz.func76, Tryz.ntmps76
    go_wp2
    go_ret
    exact ⟨rfl, Tn.refl _ _⟩
  · obtain ⟨i, hi, z0, z1, z2⟩ := info_parts u8_info
    obtain ⟨M, hM⟩ : ∃ M, madeCells (Value.int .u8 0).cells (((s.size : Nat) : Int).toNat * i.size) = M := ⟨_, rfl⟩
    have hMs : M.size = s.size := by rw [← hM, size_madeCells, z1]; simp
    have hmk : ∀ W : World, (Instr.makeSlice 80 (.int .i64 (s.size : Int)) (.int .i64 (s.size : Int))).run Tryz.prog W = .ok (.slice (some ⟨W.heap.size, 0, none⟩) s.size s.size) (W.alloc (.cells M 5)) := fun W => by
      have h := run_make (P := Tryz.prog) W 80 5 i (.int .u8 0) Tryz.underlying80 hi z0 .i64 .i64 (s.size : Int) (s.size : Int) (by omega) (by omega) (by rw [z2]; omega) (by omega)
      rw [hM] at h
      simpa using h
    have hg0 := heap_alloc_new w (.cells M 5)
    have hcp := Lib.run_copy_row_string (P := Tryz.prog) (w.alloc (.cells M 5)) 80 9 3 5 w.heap.size 0 s.size s.size s M 5 Tryz.underlying80 (by rw [hi]; simp [z1]) hg0 (Nat.le_refl _) (by omega)
    obtain ⟨Y, hY⟩ : ∃ Y, (M.toList.take 0 ++ Lib.byteCells s.data.toList ++ M.toList.drop (0 + s.size)).toArray = Y := ⟨_, rfl⟩
    rw [hY] at hcp
    have hYl : Y.toList = Lib.byteCells s.data.toList := by
      rw [← hY, List.take_zero, List.nil_append, List.drop_of_length_le (by rw [Array.length_toList]; omega), List.append_nil]
    have hYs : Y.size = s.size := by rw [← Array.length_toList, hYl, Lib.byteCells_length, ← Lib.size_eq]
    have hgY : ((w.alloc (.cells M 5)).setRow w.heap.size Y).heap[w.heap.size]? = some (.cells Y 5 (0, 0)) := setRow_heap _ _ M _ 5 (0, 0) hg0
    have hUS := Lib.run_unsafeString_row (P := Tryz.prog) ((w.alloc (.cells M 5)).setRow w.heap.size Y) 94 3 9 5 Tryz.underlying94 (by simp [Program.cellsOf, hi, z1]) w.heap.size Y.size (by unfold World.shape?; rw [hgY]) s.data.toList
      (fun e => h0 (by rw [Lib.size_eq, e]; rfl)) (by rw [← Lib.size_eq]; omega) (by rw [← Lib.size_eq]; omega)
      (fun j x hx => Lib.cells_of_row hgY Y.size j _ (by rw [List.take_of_length_le (by rw [Array.length_toList]; exact Nat.le_refl _), hYl]; simp [Lib.byteCells, hx]))
    rw [← Lib.size_eq] at hUS
    clear hY hM hg0
    go_enter Tryz.func76, Tryz.ntmps76
    go_wp2
    go_ret
    refine ⟨rfl, Tn.of_below (Lib.below_freeze (p := ⟨w.heap.size, 0, none⟩) ?_ (Nat.le_refl _) _)⟩
    exact ((Below.refl _ w).alloc (Nat.le_refl _) _).trans ⟨rfl, rfl, rfl, by simp, fun k hk => setRow_other _ _ _ _ (by omega)⟩
set_option maxHeartbeats 1000000 in
theorem clone_str (s : ByteArray) (w : World) (hs : s.size ≤ 281474976710656) : Calls Tryz.prog 62 #[.string s] w fun e w' => e = .returned (.string s) ∧ Tn No w w' := by
  go_enter Tryz.func62, Tryz.ntmps62
  go_wp2_with (go_at_call 76; refine (sclone_raw s _ hs).mono ?_; rintro e w1 ⟨rfl, ht⟩)
  go_ret
  exact ⟨rfl, ht⟩
end Go.Proofs.YtcmhfeeocehlaaaGreatDoor
