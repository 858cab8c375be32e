/-
  For both integers that are handed in (any signs, any limbs, nil or with spare room), the law BigDivides answers true, and what was handed in reads behind the call as before it. No condition.
-/
import Derived.Test.YtonfnkchpicoiaaRows
import Derived.Test.YtonfnkchpicoiaaFrame
import Derived.Test.YtonfnkchpicoiaaDivides
import Derived.ProofKit
namespace Go.Proofs.Ytonfnkchpicoiaa.bigDivides
set_option linter.unusedSimpArgs false
set_option linter.unusedVariables false
open Go.ChangeShapes Go.WideShapes Go.ChangeAt Go.RowKit

set_option maxRecDepth 100000 in
theorem lifted (os : Os) (started : os.Started) (H : Type) (enc : TypeId × Value → H) :
    ReturnsInHanded {} Try.checked os 5 .any (Rows.bigDividesSpec.pre6 enc Try.prog Try.f5 Rows.bigDividesRow.domain false) (Rows.bigDividesSpec.post enc Try.prog Try.f5 false true false false) := by
  refine returnsInHanded_of_change_sized (C := Try.checked) Try.own started (by kernel_rfl) Try.func5
    (ChangeSpec.witness6 (enc := enc) (C := Try.checked) false ⟨#[], #[.agg #[.bool false, .slice none 0 0], .agg #[.bool false, .slice none 0 0]], []⟩ 8 (by kernel_rfl) (by kernel_rfl) (by kernel_rfl) (by kernel_rfl)) ?_
  intro W base args ds gs before hval0 hW _ hsz0 _
  have hsz : (DataW.weightsEach Try.prog (Try.f5.params.toList ++ Rows.bigDividesSpec.plain.varTypes Try.prog) (ds ++ gs)).all (· ≤ reachBytes) = true := hsz0
  have hval : ∀ (j : Nat) t v, Try.f5.params[j]? = some t → args[j]? = some v → Value.okWide Try.prog W .any base t v := hval0
  have hW' := hW
  obtain ⟨p, q, hA0, hV, rfl, hfz, hnd⟩ := hW
  have hA : DataW.TrodAll enc Try.prog W 0 (fun _ => true) true Try.f5.params.toList args.toList ds p := hA0
  rw [Try.params5] at hA hval hsz
  obtain ⟨v0, v1, d0, d1, p0, p1, rfl, rfl, rfl, h0, h1⟩ := trodAll_two hA
  obtain ⟨rfl, rfl⟩ := trodVars_none hV
  have h0k := h0
  have h1k := h1
  obtain ⟨s1, a1, n1, c1, x1, rfl, _, hw1, sl1⟩ := open_big (hval 0 24 v0 rfl rfl) h0
  obtain ⟨s2, a2, n2, c2, x2, rfl, _, hw2, sl2⟩ := open_big (hval 1 24 v1 rfl rfl) h1
  clear hA0 hval0 hsz0
  simp only [List.append_nil] at hW'
  have hlt0 : ∀ x ∈ p0, x.block < W.heap.size := fun x hx => by simpa using hW'.lt x (by simp [hx])
  have hlt1 : ∀ x ∈ p1, x.block < W.heap.size := fun x hx => by simpa using hW'.lt x (by simp [hx])
  simp only [List.cons_append, List.nil_append, DataW.weightsEach, List.all_append, Bool.and_eq_true] at hsz
  have hb1 : n1 ≤ 35184372087808 := hw1 hsz.1
  have hb2 : n2 ≤ 35184372087808 := hw2 (by first | exact hsz.2 | exact hsz.2.1)
  refine (divides_walk s1 s2 a1 a2 n1 c1 n2 c2 x1 x2 W (sl1 (by omega)) (sl2 (by omega)) hb1 hb2).mono fun e W' ⟨he, hg⟩ => ?_
  subst he
  have hbel := gb_below hg
  refine ⟨_, rfl, _, _, _, [], p0 ++ p1, [], hW', ?_, ?_, rfl, hbel.frame _, fun h => by cases h⟩
  · exact trodAll_mk1 (shut_bool Try.underlying4 true)
  · exact trodAll_mk2 (Below.trod Try.laidOut (by kernel_rfl) (of_decide_eq_true (by kernel_rfl)) h0k hbel hlt0) (Below.trod Try.laidOut (by kernel_rfl) (of_decide_eq_true (by kernel_rfl)) h1k hbel hlt1)

theorem holds : Rows.BigDividesSaid :=
  OpenClaim.holds_of_wide 5 Try.f5 rfl rfl rfl rfl rfl rfl rfl ⟨rfl, rfl, rfl, rfl, rfl⟩ rfl rfl rfl rfl rfl (by kernel_rfl) Try.func5 (by kernel_rfl)
    (of_decide_eq_true (by kernel_rfl)) (by unfold Func.isWrapper; first | (rw [if_pos (by decide +kernel)]; kernel_rfl) | (rw [if_neg (by decide +kernel)]; exact ⟨rfl, rfl⟩))
    (fun os started H enc _ => lifted os started H enc)
end Go.Proofs.Ytonfnkchpicoiaa.bigDivides
namespace Go.Proofs.Ytonfnkchpicoiaa
theorem bigDivides_holds : Rows.BigDividesSaid := bigDivides.holds
#print axioms bigDivides_holds
end Go.Proofs.Ytonfnkchpicoiaa
