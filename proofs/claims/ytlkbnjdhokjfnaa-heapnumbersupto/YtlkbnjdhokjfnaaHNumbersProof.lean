/-
  For every two graphs that are handed in whose readings together hold at most 1048576 values, the law HeapNumbers answers true, and what was handed in reads behind the call as before it.
-/
import Derived.Test.YtlkbnjdhokjfnaaRows
import Derived.Test.YtlkbnjdhokjfnaaHParts
import Derived.Test.YtlkbnjdhokjfnaaHNumbers
import Derived.ProofKit
import Derived.JoinedCond
import Derived.Lib.SmallJoins
namespace Go.Proofs.Ytlkbnjdhokjfnaa
set_option linter.unusedSimpArgs false
set_option linter.unusedVariables false
theorem Try.own : ownKnob Try.prog.godebug = none := by kernel_rfl
theorem Try.laidOut : laidOutB Try.prog = true := by kernel_rfl
end Go.Proofs.Ytlkbnjdhokjfnaa
namespace Go.Proofs.Ytlkbnjdhokjfnaa.heapNumbers
open Go.ChangeShapes Go.WideShapes Go.ChangeAt Go.RowKit Go.Joins

set_option maxRecDepth 100000 in
theorem contract (H : Type) (enc : TypeId × Value → H) (W : World) (base : Nat) (args : Array Value) (ds gs : List (DataW H)) (before : List MemPlace)
    (hval : ∀ (j : Nat) t v, Try.f4.params[j]? = some t → args[j]? = some v → Value.okWide Try.prog W .any base t v)
    (hW : DataW.Whole enc Try.prog Try.f4.params.toList Rows.heapNumbersSpec.vars false W args.toList ds gs before) (hk : Rows.uptoSmall H (ds ++ gs) = true) :
    Calls Try.prog 4 args W fun e W' => ∃ v, e = .returned v ∧ Rows.heapNumbersSpec.post enc Try.prog Try.f4 false true false false W args v W' := by
  have hW' := hW
  obtain ⟨p, q, hA0, hV, rfl, hfz, hnd⟩ := hW
  have hA : DataW.TrodAll enc Try.prog W 0 (fun _ => true) true Try.f4.params.toList args.toList ds p := hA0
  rw [Try.params4] at hA hval
  obtain ⟨v0, vs0, d0, ds0, p0, q0, hargs, rfl, rfl, h0, r0⟩ := trodAll_cons hA
  obtain ⟨v1, vs1, d1, ds1, p1, q1, rfl, rfl, rfl, h1, r1⟩ := trodAll_cons r0
  obtain ⟨rfl, rfl, rfl⟩ := trodAll_nil r1
  obtain rfl : args = #[v0, v1] := by cases args; simp_all
  obtain ⟨rfl, rfl⟩ := trodVars_none hV
  have h0k := h0
  have h1k := h1
  obtain ⟨c0, c1, y0, y1, n0, rfl, rfl, rfl, t0, t1⟩ := open_agg2 Try.underlying27 (by kernel_rfl) Try.cellsGraph (hval 0 27 v0 rfl rfl) h0
  obtain ⟨c2, c3, y2, y3, n1, rfl, rfl, rfl, t2, t3⟩ := open_agg2 Try.underlying27 (by kernel_rfl) Try.cellsGraph (hval 1 27 v1 rfl rfl) h1
  clear hA0
  simp only [List.append_nil] at hW' hk
  have hbd : Rows.uptoBulkAll [.agg [y0.1, y1.1], .agg [y2.1, y3.1]] ≤ 1048576 := of_decide_eq_true hk
  simp only [Rows.uptoBulkAll, Rows.uptoBulk] at hbd
  obtain ⟨ts, rs, hga, hw⟩ := open_graph t0 t1 (by omega)
  obtain ⟨ts', rs', hga', hw'⟩ := open_graph t2 t3 (by omega)
  have hlt0 : ∀ x ∈ y0.2 ++ y1.2, x.block < W.heap.size := fun x hx => by
    have := hW'.lt x (by rcases List.mem_append.1 hx with h | h <;> simp [h])
    simpa using this
  have hlt1 : ∀ x ∈ y2.2 ++ y3.2, x.block < W.heap.size := fun x hx => by
    have := hW'.lt x (by rcases List.mem_append.1 hx with h | h <;> simp [h])
    simpa using this
  refine (numbers_walk c0 c1 c2 c3 ts ts' rs rs' W hga hga').mono fun e W' ⟨he, hg⟩ => ?_
  subst he
  have hbel := hg.below
  refine ⟨_, rfl, _, _, _, [], (y0.2 ++ y1.2) ++ ((y2.2 ++ y3.2) ++ []), [], hW', ?_, ?_, rfl, hbel.frame _, fun h => by cases h⟩
  · exact trodAll_mk1 (shut_bool Try.underlying4 true)
  · exact trodAll_cons_mk (Below.trod Try.laidOut (by kernel_rfl) (of_decide_eq_true (by kernel_rfl)) h0k hbel hlt0) (trodAll_cons_mk (Below.trod Try.laidOut (by kernel_rfl) (of_decide_eq_true (by kernel_rfl)) h1k hbel hlt1) trodAll_mk0)

set_option maxRecDepth 100000 in
theorem lifted (os : Os) (started : os.Started) (H : Type) (enc : TypeId × Value → H) (F : Stop.Interp) :
    ReturnsInHanded {} Try.checked os 4 .any ((Rows.OpenSpec.upto Rows.heapNumbersSpec).pre6 enc Try.prog Try.f4 Rows.heapNumbersUptoRow.domain false) (((Rows.OpenSpec.upto Rows.heapNumbersSpec).at F).post enc Try.prog Try.f4 false true false false) := by
  refine returnsInHanded_of_cond (C := Try.checked) (s := Rows.OpenSpec.upto Rows.heapNumbersSpec) (k := Rows.uptoSmall) rfl Try.own started (by kernel_rfl) Try.func4
    (OpenSpec.witness (enc := enc) (C := Try.checked) (s := Rows.OpenSpec.upto Rows.heapNumbersSpec) (k := Rows.uptoSmall) rfl false ⟨#[], #[.agg #[.slice none 0 0, .slice none 0 0], .agg #[.slice none 0 0, .slice none 0 0]], []⟩ 8 (by kernel_rfl) (by kernel_rfl) (by kernel_rfl)
      (x := ([.agg [.nil, .nil], .agg [.nil, .nil]], [], [])) (by kernel_rfl) rfl (by kernel_rfl)) ?_
  intro W base args ds gs before hval hW _ hk _
  exact contract H enc W base args ds gs before hval hW hk

theorem holds : Rows.HeapNumbersUptoSaid :=
  OpenClaim.holds_of_cond 4 Try.f4 rfl rfl rfl rfl rfl rfl rfl ⟨rfl, rfl, rfl, rfl, rfl⟩ rfl rfl rfl rfl rfl (by kernel_rfl) Try.func4 (by kernel_rfl)
    (of_decide_eq_true (by kernel_rfl)) (by unfold Func.isWrapper; first | (rw [if_pos (by decide +kernel)]; kernel_rfl) | (rw [if_neg (by decide +kernel)]; exact ⟨rfl, rfl⟩))
    (fun os started H enc _ F => lifted os started H enc F)
end Go.Proofs.Ytlkbnjdhokjfnaa.heapNumbers
namespace Go.Proofs.Ytlkbnjdhokjfnaa
theorem heapNumbers_holds : Rows.HeapNumbersUptoSaid := heapNumbers.holds
#print axioms heapNumbers_holds
end Go.Proofs.Ytlkbnjdhokjfnaa
