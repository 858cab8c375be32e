/-
  slices.Reverse of bytes of the call's own.
-/
import Derived.Test.YtonfnkchpicoiaaDigits
namespace Go.Proofs.Ytonfnkchpicoiaa
set_option linter.unusedSimpArgs false
set_option linter.unusedVariables false
open Go.RowKit

/-- turned round from both ends up to place k -/
def Half (D L : List Nat) (n k : Nat) : Prop := L.length = n ∧ ∀ i, i < n → L.getD i 0 = if i < k ∨ n - k ≤ i then D.getD (n - 1 - i) 0 else D.getD i 0

theorem getD_set (L : List Nat) (i j x : Nat) (hi : i < L.length) : (L.set i x).getD j 0 = if i = j then x else L.getD j 0 := by
  simp only [List.getD_eq_getElem?_getD, List.getElem?_set]
  by_cases h : i = j
  · subst h; simp [hi]
  · simp [h]
theorem half_step {D L : List Nat} {n k : Nat} (h : Half D L n k) (hk : 2 * k + 1 < n) : Half D ((L.set k (D.getD (n - 1 - k) 0)).set (n - 1 - k) (D.getD k 0)) n (k + 1) := by
  obtain ⟨h1, h2⟩ := h
  refine ⟨by simpa using h1, fun i hi => ?_⟩
  rw [getD_set _ _ _ _ (by simp; omega), getD_set _ _ _ _ (by omega)]
  by_cases e1 : n - 1 - k = i
  · rw [if_pos e1, if_pos (.inr (by omega))]
    congr 1; omega
  · rw [if_neg e1]
    by_cases e2 : k = i
    · rw [if_pos e2, if_pos (.inl (by omega)), e2]
    · rw [if_neg e2, h2 i hi]
      by_cases e3 : i < k ∨ n - k ≤ i
      · rw [if_pos e3, if_pos (by omega)]
      · rw [if_neg e3, if_neg (by omega)]
theorem half_end {D L : List Nat} {n k : Nat} (h : Half D L n k) (hD : D.length = n) (hk : n ≤ 2 * k + 1) : L = D.reverse := by
  obtain ⟨h1, h2⟩ := h
  apply List.ext_getElem
  · simp [h1, hD]
  · intro i hi hi'
    have := h2 i (by omega)
    rw [List.getD_eq_getElem?_getD, List.getElem?_eq_getElem hi, Option.getD_some] at this
    rw [this, List.getElem_reverse]
    by_cases e : i < k ∨ n - k ≤ i
    · rw [if_pos e, List.getD_eq_getElem?_getD, List.getElem?_eq_getElem (by omega), Option.getD_some]
      congr 1; omega
    · rw [if_neg e, List.getD_eq_getElem?_getD, List.getElem?_eq_getElem (by omega), Option.getD_some]
      congr 1; omega
theorem bl_set (L : List Nat) (i x : Nat) : (bl L).set i (.int .u8 (x : Int)) = bl (L.set i x) := by simp [bl, List.map_set]

/-- what Reverse leaves -/
def RevPost (w : World) (B g n c : Nat) (D : List Nat) (e : Ending) (w' : World) : Prop :=
  e = .returned (.tuple #[]) ∧ w'.ownsRow B 5 1 (.slice (some ⟨g, 0, none⟩) n c) n (bl D.reverse) ∧ w.grownBy w' (some g)

set_option maxHeartbeats 1600000 in
theorem reverse_raw (B g n c : Nat) (D : List Nat) (w : World) (h : w.ownsRow B 5 1 (.slice (some ⟨g, 0, none⟩) n c) n (bl D)) (hn : 0 < n) (hm : n ≤ 1000000000000000) :
    Calls Try.prog 64 #[.slice (some ⟨g, 0, none⟩) n c] w (RevPost w B g n c D) := by
  have hD : D.length = n := by have := h.1; simpa [bl] using this
  obtain ⟨hcd1, hcd2⟩ := own_cap h
  go_enter Try.func64, Try.ntmps64
  go_wp2
  go_loopw [2, 3] (fun i j wr => ∃ (k : Nat) (L : List Nat), 2 * k ≤ n ∧ i = .int .i64 k ∧ j = .int .i64 ((n : Int) - 1 - k) ∧ Half D L n k ∧ wr.ownsRow B 5 1 (.slice (some ⟨g, 0, none⟩) n c) n (bl L) ∧ w.grownBy wr (some g)) (fun i _ _ => n - (intOf i).toNat)
  case atStart => exact ⟨0, D, by omega, rfl, by go_num, ⟨hD, fun i hi => by rw [if_neg (by omega)]⟩, h, gb_refl _ _⟩
  case round =>
    obtain ⟨k, L, hk, rfl, rfl, hH, hown, hg⟩ := hrel
    by_cases hlt : 2 * k + 1 < n
    · have hc1 := hown.cellAt k (by omega)
      have hc2 := hown.cellAt (n - 1 - k) (by omega)
      rw [bl_get L _ (by rw [hH.1]; omega), hH.2 _ (by omega)] at hc1 hc2
      rw [if_neg (by omega)] at hc1 hc2
      have hf1 := hown.frozenAt k
      have hf2 := hown.frozenAt (n - 1 - k)
      have S1 := (hown.stored k (.int .u8 ((D.getD (n - 1 - k) 0 : Nat) : Int))).1
      have S2 := (S1.stored (n - 1 - k) (.int .u8 ((D.getD k 0 : Nat) : Int))).1
      rw [bl_set, bl_set] at S2
      have HS2 := hid S2
      have HH := hid (half_step hH hlt)
      have ej : (n : Int) - 1 - (k : Int) = ((n - 1 - k : Nat) : Int) := by omega
      rw [ej]
      have hjk : k < n - 1 - k := by omega
      have hjn : n - 1 - k < n := by omega
      have HJ : Hid (n - 1 - k + k + 1 = n) := by show _ = _; omega
      clear S1 S2 ej
      generalize n - 1 - k = j at *
      generalize D.getD j 0 = p at *
      generalize D.getD k 0 = q at *
      go_wp2
      go_region
      go_wp2
      have hJ := HJ.out
      go_roundw
      case rel => exact ⟨k + 1, _, by omega, by go_num, by go_num, HH.out, HS2.out.drew, gb_drew (gb_set (gb_set hg _ _ (.inl rfl)) _ _ (.inl rfl))⟩
      case measure => simp [intOf]; omega
    · have hnl : ¬ (k : Int) < (n : Int) - 1 - (k : Int) := by omega
      have HE := hid (half_end hH hD (by omega))
      go_wp2
      go_end0
      rw [HE.out] at hown
      exact ⟨rfl, hown, hg⟩
end Go.Proofs.Ytonfnkchpicoiaa
