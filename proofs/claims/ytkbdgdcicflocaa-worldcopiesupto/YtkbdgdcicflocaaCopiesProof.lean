/-
  For every world and every three lists of steps that are handed in whose readings together hold at most 1048576 values, the law WorldCopies answers true, and what was handed in reads behind the call as before it.
-/
import Derived.Test.YtkbdgdcicflocaaRows
import Derived.Test.YtkbdgdcicflocaaParts3
import Derived.Test.YtkbdgdcicflocaaCopiesA
import Derived.ProofKit
import Derived.JoinedCond
import Derived.Lib.SmallJoins
namespace Go.Proofs.Ytkbdgdcicflocaa
set_option linter.unusedSimpArgs false
set_option linter.unusedVariables false
theorem Try.own : ownKnob Try.prog.godebug = none := by kernel_rfl
theorem Try.laidOut : laidOutB Try.prog = true := by kernel_rfl
end Go.Proofs.Ytkbdgdcicflocaa
namespace Go.Proofs.Ytkbdgdcicflocaa.worldCopies
open Go.ChangeShapes Go.WideShapes Go.ChangeAt Go.RowKit Go.Joins

set_option maxRecDepth 100000 in
theorem contract (H : Type) (enc : TypeId × Value → H) (W : World) (base : Nat) (args : Array Value) (ds gs : List (DataW H)) (before : List MemPlace)
    (hval : ∀ (j : Nat) t v, Try.f4.params[j]? = some t → args[j]? = some v → Value.okWide Try.prog W .any base t v)
    (hW : DataW.Whole enc Try.prog Try.f4.params.toList Rows.worldCopiesSpec.vars false W args.toList ds gs before) (hk : Rows.uptoSmall H (ds ++ gs) = true) :
    Calls Try.prog 4 args W fun e W' => ∃ v, e = .returned v ∧ Rows.worldCopiesSpec.post enc Try.prog Try.f4 false true false false W args v W' := by
  have hW' := hW
  obtain ⟨p, q, hA0, hV, rfl, hfz, hnd⟩ := hW
  have hA : DataW.TrodAll enc Try.prog W 0 (fun _ => true) true Try.f4.params.toList args.toList ds p := hA0
  rw [Try.params4] at hA hval
  obtain ⟨v0, vs0, d0, ds0, p0, q0, hargs, rfl, rfl, h0, r0⟩ := trodAll_cons hA
  obtain ⟨v1, vs1, d1, ds1, p1, q1, rfl, rfl, rfl, h1, r1⟩ := trodAll_cons r0
  obtain ⟨v2, vs2, d2, ds2, p2, q2, rfl, rfl, rfl, h2, r2⟩ := trodAll_cons r1
  obtain ⟨v3, vs3, d3, ds3, p3, q3, rfl, rfl, rfl, h3, r3⟩ := trodAll_cons r2
  obtain ⟨rfl, rfl, rfl⟩ := trodAll_nil r3
  obtain rfl : args = #[v0, v1, v2, v3] := by cases args; simp_all
  obtain ⟨rfl, rfl⟩ := trodVars_none hV
  have h0k := h0
  have h1k := h1
  have h2k := h2
  have h3k := h3
  obtain ⟨c0, c1, y0, y1, n0, rfl, rfl, rfl, t0, t1⟩ := open_agg2 Try.underlying24 (by kernel_rfl) Try.cellsWorld (hval 0 24 v0 rfl rfl) h0
  obtain ⟨s, e0, x0, ls⟩ := DataW.trod_string Try.underlying9 t0
  obtain rfl : c0 = .string s := by simpa using e0
  obtain ⟨a, n, cn, fl, rfl, hn, hf⟩ := open_files t1
  obtain ⟨b1, m1, cm1, rfl⟩ := okWide_slice Try.underlying25 (hval 1 25 v1 rfl rfl)
  obtain ⟨fuel1, hf1⟩ := h1
  obtain ⟨b1', m1', cm1', xs1, e1, hm1, hx1, ht1⟩ := open_steps hf1
  cases e1
  obtain ⟨b2, m2, cm2, rfl⟩ := okWide_slice Try.underlying25 (hval 2 25 v2 rfl rfl)
  obtain ⟨fuel2, hf2⟩ := h2
  obtain ⟨b2', m2', cm2', xs2, e2, hm2, hx2, ht2⟩ := open_steps hf2
  cases e2
  obtain ⟨b3, m3, cm3, rfl⟩ := okWide_slice Try.underlying25 (hval 3 25 v3 rfl rfl)
  obtain ⟨fuel3, hf3⟩ := h3
  obtain ⟨b3', m3', cm3', xs3, e3, hm3, hx3, ht3⟩ := open_steps hf3
  cases e3
  clear hA0
  simp only [List.append_nil] at hW' hk
  have hbd : Rows.uptoBulkAll [.agg [y0.1, y1.1], d1, d2, d3] ≤ 1048576 := of_decide_eq_true hk
  rw [x0] at hbd
  simp only [Rows.uptoBulkAll, Rows.uptoBulk] at hbd
  have s0 : s.data.toList.length = s.size := by simp
  have hlt0 : ∀ x ∈ y0.2 ++ y1.2, x.block < W.heap.size := fun x hx => by
    have := hW'.lt x (by rcases List.mem_append.1 hx with h | h <;> simp [h])
    simpa using this
  have hlt1 : ∀ x ∈ p1, x.block < W.heap.size := fun x hx => by simpa using hW'.lt x (by simp [hx])
  have hlt2 : ∀ x ∈ p2, x.block < W.heap.size := fun x hx => by simpa using hW'.lt x (by simp [hx])
  have hlt3 : ∀ x ∈ p3, x.block < W.heap.size := fun x hx => by simpa using hW'.lt x (by simp [hx])
  simp only at hm1 hm2 hm3 ht1 ht2 ht3
  refine (copies_walk s a n cn (Rows.uptoBulk y1.1) fl b1 b2 b3 m1 cm1 m2 cm2 m3 cm3 xs1 xs2 xs3 W (by omega) hf (by omega) (by omega) hx1 hx2 hx3 (by omega) (by omega) (by omega) (by omega) (by omega) (by omega)).mono fun e W' ⟨he, hg⟩ => ?_
  subst he
  have hbel := hg.below
  refine ⟨_, rfl, _, _, _, [], (y0.2 ++ y1.2) ++ (p1 ++ (p2 ++ (p3 ++ []))), [], hW', ?_, ?_, rfl, hbel.frame _, fun h => by cases h⟩
  · exact trodAll_mk1 (shut_bool Try.underlying4 true)
  · exact trodAll_cons_mk (Below.trod Try.laidOut (by kernel_rfl) (of_decide_eq_true (by kernel_rfl)) h0k hbel hlt0) (trodAll_cons_mk (Below.trod Try.laidOut (by kernel_rfl) (of_decide_eq_true (by kernel_rfl)) h1k hbel hlt1) (trodAll_cons_mk (Below.trod Try.laidOut (by kernel_rfl) (of_decide_eq_true (by kernel_rfl)) h2k hbel hlt2) (trodAll_cons_mk (Below.trod Try.laidOut (by kernel_rfl) (of_decide_eq_true (by kernel_rfl)) h3k hbel hlt3) trodAll_mk0)))

set_option maxRecDepth 100000 in
theorem lifted (os : Os) (started : os.Started) (H : Type) (enc : TypeId × Value → H) (F : Stop.Interp) :
    ReturnsInHanded {} Try.checked os 4 .any ((Rows.OpenSpec.upto Rows.worldCopiesSpec).pre6 enc Try.prog Try.f4 Rows.worldCopiesUptoRow.domain false) (((Rows.OpenSpec.upto Rows.worldCopiesSpec).at F).post enc Try.prog Try.f4 false true false false) := by
  refine returnsInHanded_of_cond (C := Try.checked) (s := Rows.OpenSpec.upto Rows.worldCopiesSpec) (k := Rows.uptoSmall) rfl Try.own started (by kernel_rfl) Try.func4
    (OpenSpec.witness (enc := enc) (C := Try.checked) (s := Rows.OpenSpec.upto Rows.worldCopiesSpec) (k := Rows.uptoSmall) rfl false ⟨#[], #[.agg #[.string ⟨#[]⟩, .slice none 0 0], .slice none 0 0, .slice none 0 0, .slice none 0 0], []⟩ 8 (by kernel_rfl) (by kernel_rfl) (by kernel_rfl)
      (x := ([.agg [.lit (.string []), .nil], .nil, .nil, .nil], [], [])) (by kernel_rfl) rfl (by kernel_rfl)) ?_
  intro W base args ds gs before hval hW _ hk _
  exact contract H enc W base args ds gs before hval hW hk

theorem holds : Rows.WorldCopiesUptoSaid :=
  OpenClaim.holds_of_cond 4 Try.f4 rfl rfl rfl rfl rfl rfl rfl ⟨rfl, rfl, rfl, rfl, rfl⟩ rfl rfl rfl rfl rfl (by kernel_rfl) Try.func4 (by kernel_rfl)
    (of_decide_eq_true (by kernel_rfl)) (by unfold Func.isWrapper; first | (rw [if_pos (by decide +kernel)]; kernel_rfl) | (rw [if_neg (by decide +kernel)]; exact ⟨rfl, rfl⟩))
    (fun os started H enc _ F => lifted os started H enc F)
end Go.Proofs.Ytkbdgdcicflocaa.worldCopies
namespace Go.Proofs.Ytkbdgdcicflocaa
theorem worldCopies_holds : Rows.WorldCopiesUptoSaid := worldCopies.holds
#print axioms worldCopies_holds
end Go.Proofs.Ytkbdgdcicflocaa
