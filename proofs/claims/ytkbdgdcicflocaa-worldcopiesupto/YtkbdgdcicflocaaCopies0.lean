/-
  Two pairs of worlds beside each other.
-/
import Derived.Test.YtkbdgdcicflocaaPlays
namespace Go.Proofs.Ytkbdgdcicflocaa
set_option linter.unusedSimpArgs false
set_option linter.unusedVariables false
open Go.RowKit
attribute [local go_sem ↓] Go.wp_at_zero Go.wp_at_succ

theorem PP.keptAll {u u' : World} {p q N N2 : Nat} {S S2 : St} {X : Nat → Prop} (h : PP u p q N S N2 S2 X) (hs : u.heap.size ≤ u'.heap.size) (hk : ∀ k, X k → u'.heap[k]? = u.heap[k]?) : PP u' p q N S N2 S2 X := by
  obtain ⟨L, L', ⟨c, mo, iv, tv, vs, a⟩, ⟨fl, d, lv, tv', bv, b⟩, hx, hy, e⟩ := h
  exact ⟨L, L', ⟨_, _, _, _, _, a.kept hs (fun k hk' => hk k (hx k hk'))⟩, ⟨_, _, _, _, _, b.kept hs (fun k hk' => hk k (hy k hk'))⟩, hx, hy, e⟩

/-- two pairs, no block in common, all of it newer than W -/
def Two (W u : World) (p q N : Nat) (S : St) (c s M : Nat) (R : St) : Prop :=
  Tn No W u ∧ ∃ X Y, PP u p q N S N S X ∧ PP u c s M R M R Y ∧ (∀ k, X k → W.heap.size ≤ k ∧ k < u.heap.size) ∧ (∀ k, Y k → W.heap.size ≤ k ∧ k < u.heap.size) ∧ ∀ k, X k → ¬ Y k

theorem Two.swap {W u : World} {p q N : Nat} {S : St} {c s M : Nat} {R : St} (h : Two W u p q N S c s M R) : Two W u c s M R p q N S := by
  obtain ⟨t, X, Y, a, b, hx, hy, e⟩ := h
  exact ⟨t, Y, X, b, a, hy, hx, fun k hk hk' => e k hk' hk⟩
theorem Two.no {W u u' : World} {p q N : Nat} {S : St} {c s M : Nat} {R : St} (h : Two W u p q N S c s M R) (t : Tn No u u') : Two W u' p q N S c s M R := by
  obtain ⟨t0, X, Y, a, b, hx, hy, e⟩ := h
  exact ⟨t0.then t, X, Y, a.no t, b.no t, fun k hk => ⟨(hx k hk).1, Nat.lt_of_lt_of_le (hx k hk).2 t.size⟩, fun k hk => ⟨(hy k hk).1, Nat.lt_of_lt_of_le (hy k hk).2 t.size⟩, e⟩
theorem Two.inv {W u : World} {p q N : Nat} {S : St} {c s M : Nat} {R : St} (h : Two W u p q N S c s M R) : Inv W u p q N S := by
  obtain ⟨t, X, _, a, _, hx, _⟩ := h
  exact ⟨t, X, a, hx⟩

/-- the first pair takes a step -/
theorem Two.step {W u u' : World} {p q N' : Nat} {S' : St} {c s M : Nat} {R : St} {X Y : Nat → Prop} (t : Tn No W u) (b : PP u c s M R M R Y) (hx : ∀ k, X k → W.heap.size ≤ k ∧ k < u.heap.size) (hy : ∀ k, Y k → W.heap.size ≤ k ∧ k < u.heap.size) (e : ∀ k, X k → ¬ Y k) (hs : PL u p q X u' N' S' N' S') : Two W u' p q N' S' c s M R := by
  obtain ⟨X', a', t', hX'⟩ := hs
  refine ⟨t.trans t' (fun _ _ e => e) (fun i hi h => by have := (hx i h).1; omega), _, Y, a'.trim, b.keptAll t'.size (fun k hk => t'.block k (hy k hk).2 (fun h => e k h hk)), fun k hk => ⟨?_, hk.2⟩, fun k hk => ⟨(hy k hk).1, Nat.lt_of_lt_of_le (hy k hk).2 t'.size⟩, fun k hk hk' => hX' k (hy k hk').2 (fun h => e k h hk') hk.1⟩
  rcases Nat.lt_or_ge k W.heap.size with h1 | h1
  · exact absurd hk.1 (hX' k (Nat.lt_of_lt_of_le h1 t.size) (fun h => by have := (hx k h).1; omega))
  · exact h1
theorem two_does {W u : World} {p q N : Nat} {S : St} {c s M : Nat} {R : St} (h : Two W u p q N S c s M R) (hf : FT S) (hin : S.inp.length ≤ 9223372036854775806) (x : Stp) (hx : x.ok) (hN : N + N + 2 * x.text.size + 6 ≤ 1099511627776) :
    Calls Try.prog 12 #[.pointer (some ⟨p, 0, none⟩), .pointer (some ⟨q, 0, none⟩), x.val] u fun e u' => e = .returned (.bool true) ∧ Two W u' p q (N + 2 * x.text.size + 4) (doSt S x) c s M R := by
  obtain ⟨t, X, Y, a, b, hX, hY, e⟩ := h
  refine (does_raw u p q N S X a (fun h => by have := (hX _ h).2; omega) hf hin x hx hN).mono (fun en u' ⟨h1, h2⟩ => ⟨h1, Two.step t b hX hY e h2⟩)

/-- a pair, and the pair that Copy made of it -/
theorem two_new {W u u1 u2 : World} {p q N : Nat} {S : St} {c s M : Nat} {R : St} (h : Inv W u p q N S) (h1 : Own u u1 c M R) (h2 : ROwn u1 u2 s M R) : Two W u2 p q N S c s M R := by
  obtain ⟨t, X, a, hX⟩ := h
  have hi := inv_new h1 h2
  obtain ⟨t2, Y, b, hY⟩ := hi
  exact ⟨t.then t2, X, Y, a.no t2, b, fun k hk => ⟨(hX k hk).1, Nat.lt_of_lt_of_le (hX k hk).2 t2.size⟩, fun k hk => ⟨Nat.le_trans t.size (hY k hk).1, (hY k hk).2⟩, fun k hk hk' => by have := (hX k hk).2; have := (hY k hk').1; omega⟩
end Go.Proofs.Ytkbdgdcicflocaa
