/-
  How a list of texts and a list of numbers that are handed in are read.
-/
import Derived.Test.YtkbdgdcicflocaaRows
import Derived.Test.YtkbdgdcicflocaaBase
import Derived.ProofKit
import Derived.SliceStrings
import Derived.JoinedCond
namespace Go.Proofs.Ytkbdgdcicflocaa
set_option linter.unusedSimpArgs false
set_option linter.unusedVariables false
open Go.ChangeShapes Go.WideShapes Go.ChangeAt Go.RowKit

theorem Try.cellsStr : Try.prog.cellsOf 9 = 1 := by kernel_rfl
theorem Try.cellsI64 : Try.prog.cellsOf 3 = 1 := by kernel_rfl

theorem bulk_strs {H : Type} (ss : List ByteArray) : Rows.uptoBulkAll (strs (H := H) ss) = (ss.map (fun s => s.size + 1)).sum := by
  induction ss with
  | nil => rfl
  | cons s r ih =>
    have e : strs (H := H) (s :: r) = .lit (.string s.data.toList) :: strs r := rfl
    rw [e, Rows.uptoBulkAll, ih, Rows.uptoBulk, List.map_cons, List.sum_cons]
    simp
theorem bulk_lits {H : Type} (k : IntKind) (zs : List Int) : Rows.uptoBulkAll (lits (H := H) k zs) = zs.length := by
  induction zs with
  | nil => rfl
  | cons s r ih =>
    have e : lits (H := H) k (s :: r) = .lit (.int k s) :: lits k r := rfl
    rw [e, Rows.uptoBulkAll, ih, List.length_cons]
    simp only [Rows.uptoBulk]
    omega

/-- a row whose cells are known, by its block -/
theorem row_at {W : World} {a : Addr} {n : Nat} (f : Nat → Value) (h0 : 0 < n) (hc : ∀ i, i < n → W.cell? (a.add i) = some (f i)) : ∃ g off, some a = some ⟨g, off, none⟩ ∧ g < W.heap.size ∧ ∀ j, j < n → W.cell? ⟨g, off + j, none⟩ = some (f j) := by
  obtain ⟨b, off, spot⟩ := a
  have hc0 := hc 0 h0
  have hspot : spot = none := by simpa [Addr.add] using World.cell?_spot hc0
  subst hspot
  have hadd : ∀ j, (⟨b, off, none⟩ : Addr).add j = ⟨b, off + j, none⟩ := fun j => by simp [Addr.add]
  rw [hadd] at hc0
  exact ⟨b, off, rfl, World.block_lt_of_cell? _ _ hc0, fun j hj => by rw [← hadd]; exact hc j hj⟩

set_option maxRecDepth 100000 in
theorem open_texts {H : Type} {enc : TypeId × Value → H} {W : World} {r : Reach} {b0 : Nat} {v : Value} {d : DataW H} {p : List MemPlace} (hv : Value.okWide Try.prog W r b0 42 v) (h : DataW.Trod enc Try.prog W 0 (fun _ => true) true 42 v d p) :
    ∃ (a : Option Addr) (n c : Nat) (ts : List ByteArray), v = .slice a n c ∧ ts.length = n ∧ (ts.map (fun s => s.size + 1)).sum + 1 ≤ Rows.uptoBulk d ∧
      (0 < n → ∃ g off, a = some ⟨g, off, none⟩ ∧ g < W.heap.size ∧ ∀ j (hj : j < ts.length), W.cell? ⟨g, off + j, none⟩ = some (.string ts[j])) := by
  obtain ⟨a, n, c, rfl⟩ := okWide_slice Try.underlying42 hv
  obtain ⟨fuel, hf⟩ := h
  rcases open_strings Try.underlying42 Try.underlying9 Try.cellsStr hf with ⟨hcs, hx⟩ | ⟨a', len, cap, ss, hcs, _, hl, hm, hz, hx, hcell, _⟩
  · simp [Value.cells] at hcs
    obtain ⟨rfl, rfl, rfl⟩ := hcs
    have hd : d = .nil := congrArg Prod.fst hx
    exact ⟨none, 0, 0, [], rfl, rfl, by rw [hd]; simp [Rows.uptoBulk], fun h => by omega⟩
  · simp [Value.cells] at hcs
    obtain ⟨rfl, rfl, rfl⟩ := hcs
    simp only [if_true] at hz
    have hd : d = .slice (strs (ss.take n)) (strs (ss.drop n)) := congrArg Prod.fst hx
    refine ⟨some a', n, c, ss.take n, rfl, by simp; omega, by rw [hd]; simp only [Rows.uptoBulk, bulk_strs]; omega, fun h0 => ?_⟩
    obtain ⟨g, off, e, hg, hc⟩ := row_at (fun i => .string (ss.getD i ByteArray.empty)) h0 (fun i hi => hcell i (by omega))
    refine ⟨g, off, e, hg, fun j hj => ?_⟩
    have hj' : j < n := by simp at hj; omega
    have hjs : j < ss.length := by omega
    rw [hc j hj', List.getElem_take, List.getD_eq_getElem?_getD, List.getElem?_eq_getElem hjs, Option.getD_some]

set_option maxRecDepth 100000 in
theorem open_nums {H : Type} {enc : TypeId × Value → H} {W : World} {r : Reach} {b0 : Nat} {v : Value} {d : DataW H} {p : List MemPlace} (hv : Value.okWide Try.prog W r b0 43 v) (h : DataW.Trod enc Try.prog W 0 (fun _ => true) true 43 v d p) :
    ∃ (a : Option Addr) (n c : Nat) (zs : List Int), v = .slice a n c ∧ zs.length = n ∧ n + 1 ≤ Rows.uptoBulk d ∧
      (0 < n → ∃ g off, a = some ⟨g, off, none⟩ ∧ g < W.heap.size ∧ ∀ j (hj : j < zs.length), W.cell? ⟨g, off + j, none⟩ = some (.int .i64 zs[j]) ∧ -9223372036854775808 ≤ zs[j] ∧ zs[j] ≤ 9223372036854775807) := by
  obtain ⟨a, n, c, rfl⟩ := okWide_slice Try.underlying43 hv
  obtain ⟨fuel, hf⟩ := h
  rcases open_ints Try.underlying43 Try.underlying3 Try.cellsI64 hf with ⟨hcs, hx⟩ | ⟨a', len, cap, ss, hcs, _, hl, hm, hz, hx, hcell, hwf⟩
  · simp [Value.cells] at hcs
    obtain ⟨rfl, rfl, rfl⟩ := hcs
    have hd : d = .nil := congrArg Prod.fst hx
    exact ⟨none, 0, 0, [], rfl, rfl, by rw [hd]; simp [Rows.uptoBulk], fun h => by omega⟩
  · simp [Value.cells] at hcs
    obtain ⟨rfl, rfl, rfl⟩ := hcs
    simp only [if_true] at hz
    have hd : d = .slice (lits .i64 (ss.take n)) (lits .i64 (ss.drop n)) := congrArg Prod.fst hx
    refine ⟨some a', n, c, ss.take n, rfl, by simp; omega, by rw [hd]; simp only [Rows.uptoBulk, bulk_lits]; simp; omega, fun h0 => ?_⟩
    obtain ⟨g, off, e, hg, hc⟩ := row_at (fun i => .int .i64 (ss.getD i 0)) h0 (fun i hi => hcell i (by omega))
    refine ⟨g, off, e, hg, fun j hj => ?_⟩
    have hj' : j < n := by simp at hj; omega
    have hjs : j < ss.length := by omega
    have hw := hwf (ss[j]'hjs) (List.getElem_mem _)
    have hb : -9223372036854775808 ≤ ss[j]'hjs ∧ ss[j]'hjs ≤ 9223372036854775807 := by simpa [Lit.wf, IntKind.min, IntKind.max, IntKind.signed, IntKind.bits] using hw
    refine ⟨by rw [hc j hj', List.getElem_take, List.getD_eq_getElem?_getD, List.getElem?_eq_getElem hjs, Option.getD_some], ?_, ?_⟩
    · rw [List.getElem_take]; exact hb.1
    · rw [List.getElem_take]; exact hb.2
end Go.Proofs.Ytkbdgdcicflocaa
