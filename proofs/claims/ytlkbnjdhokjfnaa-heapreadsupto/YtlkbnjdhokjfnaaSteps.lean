/-
  The numbering by breadth, step by step.
-/
import Derived.Test.YtlkbnjdhokjfnaaBack
namespace Go.Proofs.Ytlkbnjdhokjfnaa.Hp
set_option linter.unusedSimpArgs false
set_option linter.unusedVariables false

section
variable {K : Type} [DecidableEq K]

/-- i things of those that are met have been looked at -/
inductive Steps (get : K → Option (Nd K)) (s0 : List K) : Nat → List K → Prop where
  | zero : Steps get s0 0 s0
  | succ {i : Nat} {seen : List K} {k : K} {t : Nd K} : Steps get s0 i seen → seen[i]? = some k → get k = some t → Steps get s0 (i + 1) (meet seen t.refs)

variable {get : K → Option (Nd K)} {s0 : List K} {i : Nat} {seen : List K}
theorem Steps.walk (h : Steps get s0 i seen) : ∀ {row : List K}, Walk get i seen row → Walk get 0 s0 row := by
  induction h with
  | zero => exact fun w => w
  | succ _ e g ih => exact fun w => ih (.next e g w)
theorem Steps.done (h : Steps get s0 i seen) (hi : i = seen.length) : Walk get 0 s0 seen := h.walk (.stop seen hi)
theorem Steps.nodup (h : Steps get s0 i seen) (hn : s0.Nodup) : seen.Nodup := by
  induction h with
  | zero => exact hn
  | succ _ _ _ ih => exact meet_nodup ih
theorem Steps.le (h : Steps get s0 i seen) : i ≤ seen.length := by
  induction h with
  | zero => exact Nat.zero_le _
  | @succ i seen k t _ e _ ih =>
    obtain ⟨m, em⟩ := meet_more t.refs seen
    have : i < seen.length := (List.getElem?_eq_some_iff.1 e).1
    rw [em]; simp; omega
theorem Steps.from {D : K → Prop} (hg : ∀ k t, D k → get k = some t → ∀ v ∈ t.refs, v.all D) (h : Steps get s0 i seen) (h0 : ∀ k ∈ s0, D k) : ∀ k ∈ seen, D k := by
  induction h with
  | zero => exact h0
  | succ _ e g ih => exact meet_from (hg _ _ (ih _ (List.mem_of_getElem? e)) g) ih
theorem Steps.holds (h : Steps get s0 i seen) : ∀ j, j < i → ∃ k t, seen[j]? = some k ∧ get k = some t ∧ ∀ v ∈ t.refs, v.all (· ∈ seen) := by
  induction h with
  | zero => intro j hj; omega
  | @succ i seen k t s e g ih =>
    intro j hj
    obtain ⟨m, em⟩ := meet_more t.refs seen
    have hi : i < seen.length := (List.getElem?_eq_some_iff.1 e).1
    by_cases hji : j = i
    · subst hji
      refine ⟨k, t, ?_, g, fun v hv => meet_has seen v hv⟩
      rw [em, List.getElem?_append_left hi, e]
    · obtain ⟨k', t', e', g', hv⟩ := ih j (by omega)
      refine ⟨k', t', ?_, g', fun v hv' => ?_⟩
      · rw [em, List.getElem?_append_left (by omega), e']
      · have := hv v hv'
        cases v with
        | small n => exact trivial
        | thing x => rw [em]; exact List.mem_append_left _ this

/-- the first i of those that are met, numbered -/
def upto (get : K → Option (Nd K)) (seen : List K) (i : Nat) : List (Nd Nat) := (seen.take i).filterMap (fun k => (get k).map (Nd.map (pos seen)))
theorem upto_zero (get : K → Option (Nd K)) (seen : List K) : upto get seen 0 = [] := by simp [upto]
theorem upto_all (get : K → Option (Nd K)) (seen : List K) : upto get seen seen.length = things get seen := by simp [upto, things]
theorem Steps.upto (h : Steps get s0 i seen) {k : K} {t : Nd K} (e : seen[i]? = some k) (g : get k = some t) : Hp.upto get (meet seen t.refs) (i + 1) = Hp.upto get seen i ++ [t.map (pos (meet seen t.refs))] := by
  obtain ⟨m, em⟩ := meet_more t.refs seen
  obtain ⟨hi, e'⟩ := List.getElem?_eq_some_iff.1 e
  unfold Hp.upto
  have e1 : (meet seen t.refs).take (i + 1) = seen.take i ++ [k] := by
    rw [em, List.take_append_of_le_length (by omega), List.take_add_one, e]; rfl
  rw [e1, List.filterMap_append]
  congr 1
  · apply fm_congr
    intro x hx
    obtain ⟨j, hj⟩ := List.getElem?_of_mem hx
    have hj2 : j < i := by have := (List.getElem?_eq_some_iff.1 hj).1; simp at this; omega
    rw [List.getElem?_take_of_lt hj2] at hj
    obtain ⟨k', t', e2, g2, hv⟩ := h.holds j hj2
    rw [e2] at hj; cases hj
    simp only [g2, Option.map_some]
    congr 1
    exact Nd.map_congr hv (fun k hk => by rw [em, pos_append hk])
  · simp [g]
end

/-- names as they stand in memory -/
def cs (l : List Nat) : List Int := l.map (fun n : Nat => (n : Int))
theorem pos_cast (l : List Nat) (k : Nat) : pos (cs l) (k : Int) = pos l k :=
  pos_map (φ := fun n : Nat => (n : Int)) (D := fun _ => True) (fun a b _ _ e => by omega) (fun _ _ => trivial) trivial
theorem mem_cast (l : List Nat) (k : Nat) : (k : Int) ∈ cs l ↔ k ∈ l :=
  mem_map_inj (φ := fun n : Nat => (n : Int)) (D := fun _ => True) (fun a b _ _ e => by omega) (fun _ _ => trivial) trivial
end Go.Proofs.Ytlkbnjdhokjfnaa.Hp
