/-
  For every list of bytes, every number and every list of words that are handed in whose readings together hold at most 1048576 values, the law HeapReads answers true, and what was handed in reads behind the call as before it.
-/
import Derived.Test.YtlkbnjdhokjfnaaRows
import Derived.Test.YtlkbnjdhokjfnaaHParts
import Derived.Test.YtlkbnjdhokjfnaaHReadsW
import Derived.ProofKit
import Derived.JoinedCond
import Derived.Lib.SmallJoins
namespace Go.Proofs.Ytlkbnjdhokjfnaa
set_option linter.unusedSimpArgs false
set_option linter.unusedVariables false
theorem Try.own : ownKnob Try.prog.godebug = none := by kernel_rfl
theorem Try.cellsU8 : Try.prog.cellsOf 5 = 1 := by kernel_rfl
theorem Try.cellsU64 : Try.prog.cellsOf 29 = 1 := by kernel_rfl
theorem ld_cs {w : World} {v : Value} {l : List Nat} (h : LD 1 (fun x : Nat => eU (x : Int)) w v l) : LD 1 eU w v (Hp.cs l) := by
  obtain ⟨a, c, e, h1, h2, h3⟩ := h
  have hl := cs_length l
  refine ⟨a, c, by rw [hl]; exact e, by rw [hl]; exact h1, h2, fun h0 => ?_⟩
  obtain ⟨g, o, e', hg, hc⟩ := h3 (by rw [← hl]; exact h0)
  refine ⟨g, o, e', hg, fun i hi j hj => ?_⟩
  rw [hc i (by rw [← hl]; exact hi) j hj]
  simp [Hp.cs]
theorem Try.laidOut : laidOutB Try.prog = true := by kernel_rfl
end Go.Proofs.Ytlkbnjdhokjfnaa
namespace Go.Proofs.Ytlkbnjdhokjfnaa.heapReads
open Go.ChangeShapes Go.WideShapes Go.ChangeAt Go.RowKit Go.Joins

set_option maxRecDepth 100000 in
theorem contract (H : Type) (enc : TypeId × Value → H) (W : World) (base : Nat) (args : Array Value) (ds gs : List (DataW H)) (before : List MemPlace)
    (hval : ∀ (j : Nat) t v, Try.f6.params[j]? = some t → args[j]? = some v → Value.okWide Try.prog W .any base t v)
    (hW : DataW.Whole enc Try.prog Try.f6.params.toList Rows.heapReadsSpec.vars false W args.toList ds gs before) (hk : Rows.uptoSmall H (ds ++ gs) = true) :
    Calls Try.prog 6 args W fun e W' => ∃ v, e = .returned v ∧ Rows.heapReadsSpec.post enc Try.prog Try.f6 false true false false W args v W' := by
  have hW' := hW
  obtain ⟨p, q, hA0, hV, rfl, hfz, hnd⟩ := hW
  have hA : DataW.TrodAll enc Try.prog W 0 (fun _ => true) true Try.f6.params.toList args.toList ds p := hA0
  rw [Try.params6] at hA hval
  obtain ⟨v0, vs0, d0, ds0, p0, q0, hargs, rfl, rfl, h0, r0⟩ := trodAll_cons hA
  obtain ⟨v1, vs1, d1, ds1, p1, q1, rfl, rfl, rfl, h1, r1⟩ := trodAll_cons r0
  obtain ⟨v2, vs2, d2, ds2, p2, q2, rfl, rfl, rfl, h2, r2⟩ := trodAll_cons r1
  obtain ⟨rfl, rfl, rfl⟩ := trodAll_nil r2
  obtain rfl : args = #[v0, v1, v2] := by cases args; simp_all
  obtain ⟨rfl, rfl⟩ := trodVars_none hV
  have h0k := h0
  have h1k := h1
  have h2k := h2
  obtain ⟨fuel0, hf0⟩ := h0
  obtain ⟨fuel, hf1⟩ := h1
  obtain ⟨fuel2, hf2⟩ := h2
  obtain ⟨a1, e1, x1, w1⟩ := DataW.trod_int Try.underlying29 hf1
  obtain ⟨z, rfl⟩ := okWide_int Try.underlying29 (hval 1 29 v1 rfl rfl)
  obtain rfl : z = a1 := by simpa [Value.cells] using e1
  obtain ⟨sa0, sn0, sc0, rfl⟩ := okWide_slice Try.underlying40 (hval 0 40 v0 rfl rfl)
  obtain ⟨sa2, sn2, sc2, rfl⟩ := okWide_slice Try.underlying41 (hval 2 41 v2 rfl rfl)
  clear hA0
  simp only [List.append_nil] at hW' hk
  have hbd : Rows.uptoBulkAll [d0, d1, d2] ≤ 1048576 := of_decide_eq_true hk
  simp only [Rows.uptoBulkAll] at hbd
  obtain ⟨b, hb1, _, hb3, _⟩ := open_ld (enc := enc) (W := W) (size := 1) (en := eB) Try.underlying40 Try.cellsU8 (by omega) (fun y => rfl) (fun _ : UInt8 => True) (fun _ => 1) (fun n cs x h => by
    obtain ⟨a, e, x', w'⟩ := DataW.trod_int Try.underlying5 h
    have hz : 0 ≤ a ∧ a ≤ 255 := by simpa [Lit.wf, IntKind.min, IntKind.max, IntKind.signed, IntKind.bits] using w'
    refine ⟨UInt8.ofNat a.toNat, ?_, trivial, by have := bulk_one x.1; omega⟩
    rw [e]
    have e1 : ((UInt8.ofNat a.toNat).toNat : Int) = a := by
      rw [UInt8.toNat_ofNat']
      omega
    simp [eB]
    omega) hf0
  obtain ⟨rs, hr1, hr2, hr3, _⟩ := open_ld (enc := enc) (W := W) (size := 1) (en := fun x : Nat => eU (x : Int)) Try.underlying41 Try.cellsU64 (by omega) (fun y => rfl) (fun x : Nat => x < 18446744073709551616) (fun _ => 1) (fun n cs x h => by
    obtain ⟨a, e, x', w'⟩ := DataW.trod_int Try.underlying29 h
    have hz : 0 ≤ a ∧ a ≤ 18446744073709551615 := by simpa [Lit.wf, IntKind.min, IntKind.max, IntKind.signed, IntKind.bits] using w'
    refine ⟨a.toNat, ?_, by omega, by have := bulk_one x.1; omega⟩
    rw [e]
    have e1 : ((a.toNat : Nat) : Int) = a := by omega
    simp [eU, e1]) hf2
  have hr1' : LD 1 eU W (.slice sa2 sn2 sc2) (Hp.cs rs) := ld_cs hr1
  have hz : 0 ≤ z ∧ z ≤ 18446744073709551615 := by simpa [Lit.wf, IntKind.min, IntKind.max, IntKind.signed, IntKind.bits] using w1
  obtain ⟨z, rfl⟩ : ∃ n : Nat, z = (n : Int) := ⟨z.toNat, by omega⟩
  have hlt0 : ∀ x ∈ p0, x.block < W.heap.size := fun x hx => by simpa using hW'.lt x (by simp [hx])
  have hlt1 : ∀ x ∈ p1, x.block < W.heap.size := fun x hx => by simpa using hW'.lt x (by simp [hx])
  have hlt2 : ∀ x ∈ p2, x.block < W.heap.size := fun x hx => by simpa using hW'.lt x (by simp [hx])
  refine (reads_walk _ _ b z rs W hb1 (by simp only at hb3; omega) (by omega) hr1' (by simp only at hr3; omega) hr2).mono fun e W' ⟨he, hg⟩ => ?_
  subst he
  have hbel := hg.below
  refine ⟨_, rfl, _, _, _, [], p0 ++ (p1 ++ (p2 ++ [])), [], hW', ?_, ?_, rfl, hbel.frame _, fun h => by cases h⟩
  · exact trodAll_mk1 (shut_bool Try.underlying4 true)
  · exact trodAll_cons_mk (Below.trod Try.laidOut (by kernel_rfl) (of_decide_eq_true (by kernel_rfl)) h0k hbel hlt0) (trodAll_cons_mk (Below.trod Try.laidOut (by kernel_rfl) (of_decide_eq_true (by kernel_rfl)) h1k hbel hlt1) (trodAll_cons_mk (Below.trod Try.laidOut (by kernel_rfl) (of_decide_eq_true (by kernel_rfl)) h2k hbel hlt2) trodAll_mk0))

set_option maxRecDepth 100000 in
theorem lifted (os : Os) (started : os.Started) (H : Type) (enc : TypeId × Value → H) (F : Stop.Interp) :
    ReturnsInHanded {} Try.checked os 6 .any ((Rows.OpenSpec.upto Rows.heapReadsSpec).pre6 enc Try.prog Try.f6 Rows.heapReadsUptoRow.domain false) (((Rows.OpenSpec.upto Rows.heapReadsSpec).at F).post enc Try.prog Try.f6 false true false false) := by
  refine returnsInHanded_of_cond (C := Try.checked) (s := Rows.OpenSpec.upto Rows.heapReadsSpec) (k := Rows.uptoSmall) rfl Try.own started (by kernel_rfl) Try.func6
    (OpenSpec.witness (enc := enc) (C := Try.checked) (s := Rows.OpenSpec.upto Rows.heapReadsSpec) (k := Rows.uptoSmall) rfl false ⟨#[], #[.slice none 0 0, .int .u64 0, .slice none 0 0], []⟩ 8 (by kernel_rfl) (by kernel_rfl) (by kernel_rfl)
      (x := ([.nil, .lit (.int .u64 0), .nil], [], [])) (by kernel_rfl) rfl (by kernel_rfl)) ?_
  intro W base args ds gs before hval hW _ hk _
  exact contract H enc W base args ds gs before hval hW hk

theorem holds : Rows.HeapReadsUptoSaid :=
  OpenClaim.holds_of_cond 6 Try.f6 rfl rfl rfl rfl rfl rfl rfl ⟨rfl, rfl, rfl, rfl, rfl⟩ rfl rfl rfl rfl rfl (by kernel_rfl) Try.func6 (by kernel_rfl)
    (of_decide_eq_true (by kernel_rfl)) (by unfold Func.isWrapper; first | (rw [if_pos (by decide +kernel)]; kernel_rfl) | (rw [if_neg (by decide +kernel)]; exact ⟨rfl, rfl⟩))
    (fun os started H enc _ F => lifted os started H enc F)
end Go.Proofs.Ytlkbnjdhokjfnaa.heapReads
namespace Go.Proofs.Ytlkbnjdhokjfnaa
theorem heapReads_holds : Rows.HeapReadsUptoSaid := heapReads.holds
#print axioms heapReads_holds
end Go.Proofs.Ytlkbnjdhokjfnaa
