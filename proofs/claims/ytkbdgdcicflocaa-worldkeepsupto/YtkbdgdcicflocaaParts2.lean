/-
  How a list of words that is handed in is read.
-/
import Derived.Test.YtkbdgdcicflocaaParts
namespace Go.Proofs.Ytkbdgdcicflocaa
set_option linter.unusedSimpArgs false
set_option linter.unusedVariables false
open Go.ChangeShapes Go.WideShapes Go.ChangeAt Go.RowKit

theorem Try.cellsU64 : Try.prog.cellsOf 34 = 1 := by kernel_rfl

set_option maxRecDepth 100000 in
theorem open_words {H : Type} {enc : TypeId × Value → H} {W : World} {r : Reach} {b0 : Nat} {v : Value} {d : DataW H} {p : List MemPlace} (hv : Value.okWide Try.prog W r b0 53 v) (h : DataW.Trod enc Try.prog W 0 (fun _ => true) true 53 v d p) :
    ∃ (a : Option Addr) (n c : Nat) (zs : List Nat), v = .slice a n c ∧ zs.length = n ∧ n + 1 ≤ Rows.uptoBulk d ∧
      (0 < n → ∃ g off, a = some ⟨g, off, none⟩ ∧ g < W.heap.size ∧ ∀ j (hj : j < zs.length), W.cell? ⟨g, off + j, none⟩ = some (.int .u64 (zs[j] : Int)) ∧ zs[j] ≤ 18446744073709551615) := by
  obtain ⟨a, n, c, rfl⟩ := okWide_slice Try.underlying53 hv
  obtain ⟨fuel, hf⟩ := h
  rcases open_ints Try.underlying53 Try.underlying34 Try.cellsU64 hf with ⟨hcs, hx⟩ | ⟨a', len, cap, ss, hcs, _, hl, hm, hz, hx, hcell, hwf⟩
  · simp [Value.cells] at hcs
    obtain ⟨rfl, rfl, rfl⟩ := hcs
    have hd : d = .nil := congrArg Prod.fst hx
    exact ⟨none, 0, 0, [], rfl, rfl, by rw [hd]; simp [Rows.uptoBulk], fun h => by omega⟩
  · simp [Value.cells] at hcs
    obtain ⟨rfl, rfl, rfl⟩ := hcs
    simp only [if_true] at hz
    have hd : d = .slice (lits .u64 (ss.take n)) (lits .u64 (ss.drop n)) := congrArg Prod.fst hx
    refine ⟨some a', n, c, (ss.take n).map Int.toNat, rfl, by simp; omega, by rw [hd]; simp only [Rows.uptoBulk, bulk_lits]; simp; omega, fun h0 => ?_⟩
    obtain ⟨g, off, e, hg, hc⟩ := row_at (fun i => .int .u64 (ss.getD i 0)) h0 (fun i hi => hcell i (by omega))
    refine ⟨g, off, e, hg, fun j hj => ?_⟩
    have hj' : j < n := by simp at hj; omega
    have hjs : j < ss.length := by omega
    have hw := hwf (ss[j]'hjs) (List.getElem_mem _)
    have hb : 0 ≤ ss[j]'hjs ∧ ss[j]'hjs ≤ 18446744073709551615 := by simpa [Lit.wf, IntKind.min, IntKind.max, IntKind.signed, IntKind.bits] using hw
    have e2 : ((ss.take n).map Int.toNat)[j]'hj = (ss[j]'hjs).toNat := by rw [List.getElem_map, List.getElem_take]
    rw [e2]
    refine ⟨by rw [hc j hj', List.getD_eq_getElem?_getD, List.getElem?_eq_getElem hjs, Option.getD_some, Int.toNat_of_nonneg hb.1], by omega⟩
end Go.Proofs.Ytkbdgdcicflocaa
