/-
  Plain mathematics of limbs: numbers in lists of limbs, the least first. Nothing of the program.
-/
namespace Go.Proofs.YtcmhfeeocehlaaaGreatDoor
set_option linter.unusedSimpArgs false
set_option linter.unusedVariables false

/-- 2^32, behind a name -/
def B32 : Nat := 4294967296
theorem B32_eq : B32 = 4294967296 := rfl
/-- the number that limbs say -/
def val : List Nat → Nat
  | [] => 0
  | x :: l => x + B32 * val l
/-- limbs stand below 2^32 -/
def Lims (l : List Nat) : Prop := ∀ x, x ∈ l → x < 4294967296
/-- the highest limb is not 0 -/
def Nrm (l : List Nat) : Prop := l = [] ∨ l.getD (l.length - 1) 0 ≠ 0

theorem val_append (l r : List Nat) : val (l ++ r) = val l + B32 ^ l.length * val r := by
  induction l with
  | nil => simp [val]
  | cons x l ih => simp only [List.cons_append, val, ih, List.length_cons, Nat.pow_succ]; grind

theorem val_snoc (l : List Nat) (x : Nat) : val (l ++ [x]) = val l + B32 ^ l.length * x := by
  rw [val_append]; simp [val]

theorem val_lt (l : List Nat) (h : Lims l) : val l < B32 ^ l.length := by
  induction l with
  | nil => simp [val]
  | cons x l ih =>
    have h1 := ih (fun y hy => h y (List.mem_cons_of_mem _ hy))
    have h2 := h x (List.mem_cons_self ..)
    simp only [val, List.length_cons, Nat.pow_succ]
    have h3 : B32 * val l + B32 ≤ B32 * B32 ^ l.length := by
      rw [← Nat.mul_succ]; exact Nat.mul_le_mul_left _ h1
    rw [Nat.mul_comm (B32 ^ l.length)]
    have : B32 = 4294967296 := rfl
    omega

theorem lims_append {l r : List Nat} : Lims (l ++ r) ↔ Lims l ∧ Lims r := by
  simp only [Lims, List.mem_append]
  exact ⟨fun h => ⟨fun x hx => h x (.inl hx), fun x hx => h x (.inr hx)⟩, fun h x hx => hx.elim (h.1 x) (h.2 x)⟩

theorem lims_snoc {l : List Nat} {x : Nat} (h : Lims l) (hx : x < 4294967296) : Lims (l ++ [x]) :=
  lims_append.2 ⟨h, fun y hy => by simp at hy; omega⟩

theorem lims_getD {l : List Nat} (h : Lims l) (i : Nat) : l.getD i 0 < 4294967296 := by
  by_cases hi : i < l.length
  · rw [List.getD_eq_getElem?_getD, List.getElem?_eq_getElem hi]; exact h _ (List.getElem_mem hi)
  · rw [List.getD_eq_getElem?_getD, List.getElem?_eq_none (by omega)]; simp

theorem lims_of_getD {l : List Nat} (h : ∀ i, l.getD i 0 < 4294967296) : Lims l := by
  intro x hx
  obtain ⟨i, hi, rfl⟩ := List.getElem_of_mem hx
  have := h i
  rwa [List.getD_eq_getElem?_getD, List.getElem?_eq_getElem hi] at this

theorem take_snoc (l : List Nat) (k : Nat) (h : k < l.length) : l.take (k + 1) = l.take k ++ [l.getD k 0] := by
  rw [List.take_succ_eq_append_getElem h, List.getD_eq_getElem?_getD, List.getElem?_eq_getElem h]; rfl

/-- a limb more at the end -/
theorem val_take_succ (l : List Nat) (k : Nat) : val (l.take (k + 1)) = val (l.take k) + B32 ^ k * l.getD k 0 := by
  by_cases h : k < l.length
  · rw [take_snoc l k h, val_snoc, List.length_take, Nat.min_eq_left (Nat.le_of_lt h)]
  · rw [List.take_of_length_le (by omega), List.take_of_length_le (by omega), List.getD_eq_getElem?_getD, List.getElem?_eq_none (by omega)]; simp

/-- the length without the noughts at the end -/
def tl (l : List Nat) : Nat → Nat
  | 0 => 0
  | k + 1 => if l.getD k 0 = 0 then tl l k else k + 1

theorem tl_zero (l : List Nat) (k : Nat) (h : l.getD k 0 = 0) : tl l (k + 1) = tl l k := by rw [tl, if_pos h]
theorem tl_le (l : List Nat) (k : Nat) : tl l k ≤ k := by
  induction k with
  | zero => simp [tl]
  | succ k ih => unfold tl; split <;> omega
/-- limbs without the noughts at the end -/
def tr (l : List Nat) : List Nat := l.take (tl l l.length)

theorem val_tl (l : List Nat) (k : Nat) : val (l.take (tl l k)) = val (l.take k) := by
  induction k with
  | zero => simp [tl]
  | succ k ih =>
    unfold tl
    split
    · rename_i h; rw [ih, val_take_succ, h]; simp
    · rfl
theorem val_tr (l : List Nat) : val (tr l) = val l := by
  unfold tr; rw [val_tl]; simp
theorem tr_length (l : List Nat) : (tr l).length = tl l l.length := by
  have := tl_le l l.length
  unfold tr; rw [List.length_take]; omega
theorem tl_nz (l : List Nat) (k : Nat) : tl l k = 0 ∨ l.getD (tl l k - 1) 0 ≠ 0 := by
  induction k with
  | zero => simp [tl]
  | succ k ih =>
    unfold tl
    split
    · exact ih
    · right; simpa
theorem getD_take (l : List Nat) (k i : Nat) (h : i < k) : (l.take k).getD i 0 = l.getD i 0 := by
  simp only [List.getD_eq_getElem?_getD, List.getElem?_take, h, if_true]
theorem nrm_tr (l : List Nat) : Nrm (tr l) := by
  unfold Nrm
  rw [tr_length]
  rcases tl_nz l l.length with h | h
  · left; unfold tr; rw [h]; simp
  · by_cases h0 : tl l l.length = 0
    · left; unfold tr; rw [h0]; simp
    · right; unfold tr; rw [getD_take _ _ _ (by omega)]; exact h
theorem lims_take {l : List Nat} (h : Lims l) (k : Nat) : Lims (l.take k) := fun x hx => h x (List.mem_of_mem_take hx)
theorem lims_tr {l : List Nat} (h : Lims l) : Lims (tr l) := lims_take h _

theorem nrm_pos {l : List Nat} (h : Nrm l) (hn : l ≠ []) : B32 ^ (l.length - 1) ≤ val l := by
  rcases h with h | h
  · exact absurd h hn
  · have hl : 0 < l.length := List.length_pos_iff.2 hn
    have e : val l = val (l.take (l.length - 1 + 1)) := by rw [List.take_of_length_le (by omega)]
    rw [e, val_take_succ]
    have : B32 ^ (l.length - 1) * 1 ≤ B32 ^ (l.length - 1) * l.getD (l.length - 1) 0 := Nat.mul_le_mul_left _ (by omega)
    omega

theorem B32_pos : 0 < B32 := by decide
theorem pow_mono {a b : Nat} (h : a ≤ b) : B32 ^ a ≤ B32 ^ b := Nat.pow_le_pow_right B32_pos h

theorem val_zero_nrm {l : List Nat} (h : Nrm l) (hv : val l = 0) : l = [] := by
  by_cases hn : l = []
  · exact hn
  · have := nrm_pos h hn
    have := Nat.pow_pos (n := l.length - 1) B32_pos
    omega

/-- of two normal numbers the longer one is greater -/
theorem lt_of_length {x y : List Nat} (hx : Lims x) (hy : Nrm y) (h : x.length < y.length) : val x < val y := by
  have h1 := val_lt x hx
  have h2 := nrm_pos hy (by intro e; rw [e] at h; simp at h)
  have h3 := pow_mono (show x.length ≤ y.length - 1 by omega)
  omega

theorem length_le_of_val {x y : List Nat} (hx : Nrm x) (hy : Lims y) (h : val x ≤ val y) : x.length ≤ y.length := by
  by_cases hl : y.length < x.length
  · have := lt_of_length hy hx hl; omega
  · omega

theorem val_inj {x y : List Nat} (hx : Lims x) (hy : Lims y) (hl : x.length = y.length) (h : val x = val y) : x = y := by
  induction x generalizing y with
  | nil => exact (List.length_eq_zero_iff.1 (by simpa using hl.symm)).symm
  | cons a x ih =>
    cases y with
    | nil => simp at hl
    | cons b y =>
      have ha := hx a (List.mem_cons_self ..)
      have hb := hy b (List.mem_cons_self ..)
      simp only [val] at h
      have hB : B32 = 4294967296 := rfl
      rw [hB] at h
      have e1 : a = b := by omega
      have e2 : val x = val y := by omega
      rw [e1, ih (fun z hz => hx z (List.mem_cons_of_mem _ hz)) (fun z hz => hy z (List.mem_cons_of_mem _ hz)) (by simpa using hl) e2]

theorem nrm_inj {x y : List Nat} (hx : Lims x) (hy : Lims y) (nx : Nrm x) (ny : Nrm y) (h : val x = val y) : x = y :=
  val_inj hx hy (Nat.le_antisymm (length_le_of_val nx hy (by omega)) (length_le_of_val ny hx (by omega))) h

theorem val_split (l : List Nat) (k : Nat) (hk : k ≤ l.length) : val l = val (l.take k) + B32 ^ k * val (l.drop k) := by
  have h := val_append (l.take k) (l.drop k)
  rw [List.take_append_drop, List.length_take, Nat.min_eq_left hk] at h
  exact h
/-- the highest limbs that differ decide -/
theorem lt_at {x y : List Nat} {m : Nat} (hx : Lims x) (hm : m < x.length) (hm' : m < y.length) (hd : x.drop (m + 1) = y.drop (m + 1)) (h : x.getD m 0 < y.getD m 0) : val x < val y := by
  have e1 := val_split x (m + 1) (by omega)
  have e2 := val_split y (m + 1) (by omega)
  rw [val_take_succ] at e1 e2
  rw [hd] at e1
  have h1 := val_lt (x.take m) (lims_take hx m)
  rw [List.length_take, Nat.min_eq_left (by omega)] at h1
  have h2 : B32 ^ m * (x.getD m 0 + 1) ≤ B32 ^ m * y.getD m 0 := Nat.mul_le_mul_left _ h
  rw [Nat.mul_add] at h2
  omega

/-- one limb of a sum carried on: N so far, c carried, the next limbs come to s = d + 2^32 c' -/
theorem carry_step {N : List Nat} {k c c' d s X : Nat} (hk : N.length = k) (h : val N + B32 ^ k * c = X) (e : c + s = d + B32 * c') :
    val (N ++ [d]) + B32 ^ (k + 1) * c' = X + B32 ^ k * s := by
  subst hk
  rw [val_snoc, Nat.pow_succ]
  have : B32 ^ N.length * (c + s) = B32 ^ N.length * (d + B32 * c') := by rw [e]
  grind

end Go.Proofs.YtcmhfeeocehlaaaGreatDoor
