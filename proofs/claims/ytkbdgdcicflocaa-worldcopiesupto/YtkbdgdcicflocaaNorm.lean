/-
  A call within a region that draws; a statement that ends in one way.
-/
import Derived.Test.YtkbdgdcicflocaaPairA
import Derived.Deep.RegionLaw
import Derived.Deep.Light
namespace Go.Proofs.Ytkbdgdcicflocaa
set_option linter.unusedSimpArgs false
set_option linter.unusedVariables false
open Go.RowKit
attribute [local go_sem ↓] Go.wp_at_zero Go.wp_at_succ

theorem wp_fcall {ops : Array Oper} {o : Oper} {a : Act} {W : World} {K : Act → World → Prop} {Q : Exit → Act → World → Prop} {E : Prop} (hg : o.guard = none) (f : FuncId) (args : Array Value) (hrun : (execOp a.eval o).run Try.prog W = .ok (.enter f args) W)
    {R : Ending → World → Prop} (hc : Calls Try.prog f args W R) (hK : ∀ e w', R e w' → ∃ v, e = .returned v ∧ K (a.put o.dst v) w') :
    if Region.wanted o (yielded ops a.tmps) = true then Oper.wp Try.prog o a W K Q else E := by
  have hw : Region.wanted o (yielded ops a.tmps) = true := by simp [Region.wanted, hg]
  rw [if_pos hw]
  unfold Oper.wp
  rw [hrun, Oper.upon_enter]
  refine hc.mono fun e w'' hh => ?_
  obtain ⟨v, rfl, h⟩ := hK e w'' hh
  exact h

/-- a statement that ends in one way, and writes the slots from lo on -/
theorem wp_norm {s : Code} {Q : Exit → Act → World → Prop} {l : List Value} {ds : List Deferred} {w : World} (lo n : Nat) (R : World → Prop)
    (h : ∀ G : Act → Prop, Hid (∀ a' : Act, a'.tmps.toList.take lo = l.take lo → a'.tmps.toList.drop (lo + n) = l.drop (lo + n) → ((a'.tmps.toList.drop lo).take n).length = n → a'.defers = ds → G a') → s.wp Try.prog (fun e a' w' => match e with | .normal => G a' ∧ R w' | _ => False) ⟨l.toArray, ds⟩ w)
    (hk : ∀ xs w', xs.length = n → R w' → Q .normal ⟨(l.take lo ++ xs ++ l.drop (lo + n)).toArray, ds⟩ w') : s.wp Try.prog Q ⟨l.toArray, ds⟩ w := by
  refine wp_mono (h (fun a' => ∃ xs : List Value, xs.length = n ∧ a' = ⟨(l.take lo ++ xs ++ l.drop (lo + n)).toArray, ds⟩) (fun a' h1 h2 h3 h4 => ⟨(a'.tmps.toList.drop lo).take n, h3, ?_⟩)) (fun e a' w' hh => ?_)
  · obtain ⟨tm, df⟩ := a'
    simp only at h1 h2 h3 h4
    subst h4
    rw [← h1, ← h2, ← List.drop_drop, List.append_assoc, List.take_append_drop, List.take_append_drop]
  · cases e with
    | normal =>
      obtain ⟨⟨xs, hx, rfl⟩, hr⟩ := hh
      exact hk xs w' hx hr
    | _ => exact hh.elim

end Go.Proofs.Ytkbdgdcicflocaa
