/-
  How an integer that is handed in is read: a sign, limbs in memory.
-/
import Derived.Test.YtonfnkchpicoiaaBase
import Derived.ProofKit
import Derived.Lib.SmallJoins
namespace Go.Proofs.Ytonfnkchpicoiaa
set_option linter.unusedSimpArgs false
set_option linter.unusedVariables false
open Go.ChangeShapes Go.WideShapes Go.ChangeAt Go.RowKit Go.Joins

theorem Try.own : ownKnob Try.prog.godebug = none := by kernel_rfl
theorem Try.laidOut : laidOutB Try.prog = true := by kernel_rfl
theorem Try.cellsInt : Try.prog.cellsOf 24 = 2 := by kernel_rfl
theorem Try.cellsU32 : Try.prog.cellsOf 47 = 1 := by kernel_rfl
theorem Try.bytesU32 : Try.prog.bytesOf 47 = 4 := by kernel_rfl

/-- the limbs of a list of numbers -/
def limbsOf (zs : List Int) : List Nat := zs.map Int.toNat

theorem sl_of {W : World} {a : Addr} {len cap : Nat} {zs : List Int} (hl : len ≤ cap) (hm : cap ≤ maxLen) (hz : zs.length = cap) (hcell : ∀ i, i < zs.length → W.cell? (a.add i) = some (.int .u32 (zs.getD i 0)))
    (hw : ∀ n ∈ zs, (Lit.int .u32 n).wf = true) (hb : len ≤ 35184372088832) : SL W (some a) len cap (limbsOf (zs.take len)) := by
  have hbd : ∀ n ∈ zs, 0 ≤ n ∧ n ≤ 4294967295 := fun n hn => by simpa [Lit.wf, IntKind.min, IntKind.max, IntKind.signed, IntKind.bits] using hw n hn
  refine ⟨by simp [limbsOf]; omega, hl, hb, by unfold maxLen at hm; omega, ?_, fun h => (by cases h), ?_⟩
  · intro x hx
    simp only [limbsOf, List.mem_map] at hx
    obtain ⟨y, hy, rfl⟩ := hx
    have := hbd y (List.mem_of_mem_take hy)
    omega
  · by_cases h0 : len = 0
    · exact ⟨0, 0, fun h => by omega, fun j h => by omega⟩
    · obtain ⟨b, off, spot⟩ := a
      have hc0 := hcell 0 (by omega)
      have hspot : spot = none := by simpa [Addr.add] using World.cell?_spot hc0
      subst hspot
      have hadd : ∀ j, (⟨b, off, none⟩ : Addr).add j = ⟨b, off + j, none⟩ := fun j => by simp [Addr.add]
      rw [hadd] at hc0
      refine ⟨b, off, fun _ => ⟨rfl, World.block_lt_of_cell? _ _ hc0⟩, fun j hj => ?_⟩
      rw [← hadd, hcell j (by omega)]
      have hjz : j < zs.length := by omega
      have hb2 := hbd (zs[j]'hjz) (List.getElem_mem _)
      have e : (limbsOf (zs.take len)).getD j 0 = (zs[j]'hjz).toNat := by
        simp [limbsOf, List.getD_eq_getElem?_getD, List.getElem?_take, hj, List.getElem?_eq_getElem hjz]
      rw [e, List.getD_eq_getElem?_getD, List.getElem?_eq_getElem hjz, Option.getD_some]
      congr 2
      omega

/-- an integer that is handed in: a sign, a slice; what it weighs; that it reads as limbs, if they are not too many -/
theorem open_big {H : Type} {enc : TypeId × Value → H} {W : World} {r : Reach} {b0 : Nat} {v : Value} {d : DataW H} {p : List MemPlace} (hv : Value.okWide Try.prog W r b0 24 v) (h : DataW.Trod enc Try.prog W 0 (fun _ => true) true 24 v d p) :
    ∃ (s : Bool) (a : Option Addr) (n c : Nat) (l : List Nat), v = .agg #[.bool s, .slice a n c] ∧ n ≤ Rows.uptoBulk d ∧ ((d.weights Try.prog 24).all (· ≤ reachBytes) = true → n ≤ 35184372087808) ∧ (n ≤ 35184372088832 → SL W a n c l) := by
  obtain ⟨c0, c1, y0, y1, m, rfl, rfl, rfl, hy0, hy1⟩ := open_agg2 Try.underlying24 (by kernel_rfl) Try.cellsInt hv h
  obtain ⟨s, e0, rfl⟩ := DataW.trod_bool Try.underlying4 hy0
  simp at e0
  subst e0
  rcases open_ints Try.underlying22 Try.underlying47 Try.cellsU32 hy1 with ⟨hcs, hx⟩ | ⟨a, len, cap, zs, hcs, _, hl, hm, hz, hx, hcell, hwz⟩
  · simp at hcs
    subst hcs
    exact ⟨s, none, 0, 0, [], rfl, by omega, fun _ => by omega, fun _ => SL.nil' W⟩
  · simp at hcs
    subst hcs
    subst hx
    simp only [if_true] at hz
    refine ⟨s, some a, len, cap, limbsOf (zs.take len), rfl, ?_, ?_, fun hb => sl_of hl hm hz hcell hwz hb⟩
    · have hlen : ∀ l : List (DataW H), l.length ≤ Rows.uptoBulkAll l := by
        intro l
        induction l with
        | nil => simp [Rows.uptoBulkAll]
        | cons x r ih =>
          have : 1 ≤ Rows.uptoBulk x := by
            cases x with
            | lit l => cases l <;> simp [Rows.uptoBulk]
            | _ => simp [Rows.uptoBulk]
          simp only [Rows.uptoBulkAll, List.length_cons]
          omega
      have h2 := hlen (lits (H := H) .u32 (zs.take len))
      have e : (lits (H := H) .u32 (zs.take len)).length = len := by simp [lits]; omega
      simp only [Rows.uptoBulk, Rows.uptoBulkAll]
      omega
    · intro hwt
      simp [DataW.weights, DataW.weightsEach, Try.underlying24, Try.underlying22, Try.bytesU32, lits, reachBytes] at hwt
      have h2 := of_decide_eq_true hwt.1
      omega
end Go.Proofs.Ytonfnkchpicoiaa
