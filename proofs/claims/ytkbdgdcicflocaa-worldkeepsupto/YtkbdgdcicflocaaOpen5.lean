/-
  SysOpen.
-/
import Derived.Test.YtkbdgdcicflocaaOpen3
import Derived.Test.YtkbdgdcicflocaaOpen4
namespace Go.Proofs.Ytkbdgdcicflocaa
set_option linter.unusedSimpArgs false
set_option linter.unusedVariables false
open Go.RowKit
attribute [local go_sem ↓] Go.wp_at_zero Go.wp_at_succ

theorem open_raw (p : Nat) (L : Nat → Option Lab) (N : Nat) (S : St) (s : ByteArray) (fl : Int) (w : World) (h : PW w p L N S) (hN : N + 2 ≤ 1099511627776) (hs : s.size ≤ maxLen) :
    Calls Try.prog 21 #[.pointer (some ⟨p, 0, none⟩), .string s, .int .i64 fl] w (OpenPost w p L N S s fl) := by
  by_cases h1 : 255 < s.size
  · exact open_36 p L N S s fl w h hs h1
  by_cases h2 : (fl ≠ 0 ∧ fl ≠ 577) ∨ zb s.data.toList = true
  · exact open_22 p L N S s fl w h (by omega) h2
  have hz : zb s.data.toList = false := by
    cases e : zb s.data.toList with
    | false => rfl
    | true => exact absurd (.inr e) h2
  have hfl : fl = 0 ∨ fl = 577 := by
    rcases Classical.em (fl = 0) with e | e
    · exact .inl e
    · rcases Classical.em (fl = 577) with e' | e'
      · exact .inr e'
      · exact absurd (.inl ⟨e, e'⟩) h2
  by_cases h3 : s.size = 0 ∨ (fl = 0 ∧ S.has s = false)
  · exact open_2 p L N S s fl w h (by omega) hfl hz h3
  have h0 : ¬ s.size = 0 := fun e => h3 (.inl e)
  have hh : fl = 0 → S.has s = true := fun e => by
    cases e2 : S.has s with
    | true => rfl
    | false => exact absurd (.inr ⟨e, e2⟩) h3
  cases hf : S.free with
  | none => exact open_24 p L N S s fl w h (by omega) (by rcases hfl with e | e; exact .inr ⟨e, hh e⟩; exact .inl e) hz h0 hf
  | some k =>
    have hk : k < 19 := by
      have := List.mem_of_find?_eq_some hf
      simpa using this
    rcases hfl with rfl | rfl
    · exact open_r p L N S s w h (by omega) (hh rfl) hz h0 k hk hf
    · exact open_w p L N S s w h hN (by omega) hz h0 k hk hf
end Go.Proofs.Ytkbdgdcicflocaa
