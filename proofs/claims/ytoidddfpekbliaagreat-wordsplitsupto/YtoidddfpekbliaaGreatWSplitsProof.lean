/-
  For every program, every world and every list of numbers that are handed in whose readings together hold at most 1048576 values, the law WordSplits answers true, and what was handed in reads behind the call as before it.
-/
import Derived.Test.YtoidddfpekbliaaGreatRows
import Derived.Test.YtoidddfpekbliaaGreatWJ07
import Derived.Test.YtoidddfpekbliaaGreatWJ35
import Derived.Test.YtoidddfpekbliaaGreatWLawK
import Derived.ProofKit
import Derived.JoinedCond
import Derived.Lib.SmallJoins
namespace Go.Proofs.YtoidddfpekbliaaGreat
set_option linter.unusedSimpArgs false
set_option linter.unusedVariables false
theorem Tryz.own : ownKnob Tryz.prog.godebug = none := by kernel_rfl
theorem Tryz.laidOut : laidOutB Tryz.prog = true := by kernel_rfl
end Go.Proofs.YtoidddfpekbliaaGreat
namespace Go.Proofs.YtoidddfpekbliaaGreat.wordSplits
open Go.ChangeShapes Go.WideShapes Go.ChangeAt Go.RowKit Go.Joins

set_option maxRecDepth 100000 in
theorem contract (H : Type) (enc : TypeId × Value → H) (W : World) (base : Nat) (args : Array Value) (ds gs : List (DataW H)) (before : List MemPlace)
    (hval : ∀ (j : Nat) t v, Tryz.f7.params[j]? = some t → args[j]? = some v → Value.okWide Tryz.prog W .any base t v)
    (hW : DataW.Whole enc Tryz.prog Tryz.f7.params.toList Rows.wordSplitsSpec.vars false W args.toList ds gs before) (hk : Rows.uptoSmall H (ds ++ gs) = true) :
    Calls Tryz.prog 7 args W fun e W' => ∃ v, e = .returned v ∧ Rows.wordSplitsSpec.post enc Tryz.prog Tryz.f7 false true false false W args v W' := by
  have hW' := hW
  obtain ⟨p, q, hA0, hV, rfl, hfz, hnd⟩ := hW
  have hA : DataW.TrodAll enc Tryz.prog W 0 (fun _ => true) true Tryz.f7.params.toList args.toList ds p := hA0
  rw [Tryz.params7] at hA hval
  obtain ⟨v0, vs0, d0, ds0, p0, q0, hargs, rfl, rfl, h0, r0⟩ := trodAll_cons hA
  obtain ⟨v1, vs1, d1, ds1, p1, q1, rfl, rfl, rfl, h1, r1⟩ := trodAll_cons r0
  obtain ⟨v2, vs2, d2, ds2, p2, q2, rfl, rfl, rfl, h2, r2⟩ := trodAll_cons r1
  obtain ⟨rfl, rfl, rfl⟩ := trodAll_nil r2
  obtain rfl : args = #[v0, v1, v2] := by cases args; simp_all
  obtain ⟨rfl, rfl⟩ := trodVars_none hV
  have h0k := h0
  have h1k := h1
  have h2k := h2
  obtain ⟨c0, c1, c2, y0, y1, y2, n0, rfl, rfl, rfl, t0, t1, t2⟩ := open_agg3 Tryz.underlying25 (by kernel_rfl) Tryz.cellsWprog (hval 0 25 v0 rfl rfl) h0
  obtain ⟨z, ez, xz, wz⟩ := DataW.trod_int Tryz.underlying3 t2
  obtain rfl : c2 = .int .i64 z := by simpa using ez
  obtain ⟨c3, c4, y3, y4, n1, rfl, rfl, rfl, t3, t4⟩ := open_agg2 Tryz.underlying33 (by kernel_rfl) Tryz.cellsWorld (hval 1 33 v1 rfl rfl) h1
  obtain ⟨s, e0, x0, ls⟩ := DataW.trod_string Tryz.underlying9 t3
  obtain rfl : c3 = .string s := by simpa using e0
  obtain ⟨a, n, cn, fl, rfl, hn, hf⟩ := open_fls t4
  obtain ⟨b, m, cm, rfl⟩ := okWide_slice Tryz.underlying72 (hval 2 72 v2 rfl rfl)
  obtain ⟨fuel, hf2⟩ := h2
  obtain ⟨ml, k1, k2, k3⟩ := open_ints hf2
  clear hA0
  simp only [List.append_nil] at hW' hk
  have hbd : Rows.uptoBulkAll [.agg [y0.1, y1.1, y2.1], .agg [y3.1, y4.1], d2] ≤ 1048576 := of_decide_eq_true hk
  rw [x0] at hbd
  simp only [Rows.uptoBulkAll, Rows.uptoBulk] at hbd
  have s0 : s.data.toList.length = s.size := by simp
  obtain ⟨fs, dl, hp⟩ := open_prog t0 t1 (i64_of wz) (by omega)
  have hlt0 : ∀ x ∈ y0.2 ++ (y1.2 ++ y2.2), x.block < W.heap.size := fun x hx => by
    have := hW'.lt x (by simp only [List.mem_append] at hx ⊢; exact .inl hx)
    simpa using this
  have hlt1 : ∀ x ∈ y3.2 ++ y4.2, x.block < W.heap.size := fun x hx => by
    have := hW'.lt x (by simp only [List.mem_append] at hx ⊢; exact .inr (.inl hx))
    simpa using this
  have hlt2 : ∀ x ∈ p2, x.block < W.heap.size := fun x hx => by simpa using hW'.lt x (by simp [hx])
  refine (splits_walk (hid (fun u => known_raw u)) ⟨c0, fs, c1, dl, z⟩ W hp s a n cn (Rows.uptoBulk y4.1) fl (by unfold maxLen; omega) hf (by omega) (by omega) _ ml k1 k2).mono fun e W' ⟨he, hg⟩ => ?_
  subst he
  have hbel := hg.below
  refine ⟨_, rfl, _, _, _, [], (y0.2 ++ (y1.2 ++ y2.2)) ++ ((y3.2 ++ y4.2) ++ (p2 ++ [])), [], hW', ?_, ?_, rfl, hbel.frame _, fun h => by cases h⟩
  · exact trodAll_mk1 (shut_bool Tryz.underlying4 true)
  · exact trodAll_cons_mk (Below.trod Tryz.laidOut (by kernel_rfl) (of_decide_eq_true (by kernel_rfl)) h0k hbel hlt0) (trodAll_cons_mk (Below.trod Tryz.laidOut (by kernel_rfl) (of_decide_eq_true (by kernel_rfl)) h1k hbel hlt1) (trodAll_cons_mk (Below.trod Tryz.laidOut (by kernel_rfl) (of_decide_eq_true (by kernel_rfl)) h2k hbel hlt2) trodAll_mk0))

set_option maxRecDepth 100000 in
theorem lifted (os : Os) (started : os.Started) (H : Type) (enc : TypeId × Value → H) (F : Stop.Interp) :
    ReturnsInHanded {} Tryz.checked os 7 .any ((Rows.OpenSpec.upto Rows.wordSplitsSpec).pre6 enc Tryz.prog Tryz.f7 Rows.wordSplitsUptoRow.domain false) (((Rows.OpenSpec.upto Rows.wordSplitsSpec).at F).post enc Tryz.prog Tryz.f7 false true false false) := by
  refine returnsInHanded_of_cond (C := Tryz.checked) (s := Rows.OpenSpec.upto Rows.wordSplitsSpec) (k := Rows.uptoSmall) rfl Tryz.own started (by kernel_rfl) Tryz.func7
    (OpenSpec.witness (enc := enc) (C := Tryz.checked) (s := Rows.OpenSpec.upto Rows.wordSplitsSpec) (k := Rows.uptoSmall) rfl false ⟨#[], #[.agg #[.slice none 0 0, .slice none 0 0, .int .i64 0], .agg #[.string ⟨#[]⟩, .slice none 0 0], .slice none 0 0], []⟩ 8 (by kernel_rfl) (by kernel_rfl) (by kernel_rfl)
      (x := ([.agg [.nil, .nil, .lit (.int .i64 0)], .agg [.lit (.string []), .nil], .nil], [], [])) (by kernel_rfl) rfl (by kernel_rfl)) ?_
  intro W base args ds gs before hval hW _ hk _
  exact contract H enc W base args ds gs before hval hW hk

theorem holds : Rows.WordSplitsUptoSaid :=
  OpenClaim.holds_of_cond 7 Tryz.f7 rfl rfl rfl rfl rfl rfl rfl ⟨rfl, rfl, rfl, rfl, rfl⟩ rfl rfl rfl rfl rfl (by kernel_rfl) Tryz.func7 (by kernel_rfl)
    (of_decide_eq_true (by kernel_rfl)) (by unfold Func.isWrapper; first | (rw [if_pos (by decide +kernel)]; kernel_rfl) | (rw [if_neg (by decide +kernel)]; exact ⟨rfl, rfl⟩))
    (fun os started H enc _ F => lifted os started H enc F)
end Go.Proofs.YtoidddfpekbliaaGreat.wordSplits
namespace Go.Proofs.YtoidddfpekbliaaGreat
theorem wordSplits_holds : Rows.WordSplitsUptoSaid := wordSplits.holds
#print axioms wordSplits_holds
end Go.Proofs.YtoidddfpekbliaaGreat
