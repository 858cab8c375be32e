/-
  sum, difference: of limbs, in new memory.
-/
import Derived.Test.YtcmhfeeocehlaaaGreatDoorTake
import Derived.Deep.DeepMust
namespace Go.Proofs.YtcmhfeeocehlaaaGreatDoor
set_option linter.unusedSimpArgs false
set_option linter.unusedVariables false
open Go.RowKit

/-- kept from the walk -/
theorem hid1 {p : Prop} (h : p) : Hid p := h

/-- a new row of limbs, at the head of a block of the call's own -/
def NewPost (w : World) (n : Nat) (good : List Nat → Prop) (e : Ending) (w' : World) : Prop :=
  ∃ g N, e = .returned (.slice (some ⟨g, 0, none⟩) n n) ∧ Row w' g N ∧ N.length = n ∧ Lims N ∧ w.heap.size ≤ g ∧ good N ∧ w.grownBy w' none

/-- block g is a row of k noughts -/
def Made (w : World) (g k : Nat) : Prop := w.heap[g]? = some (.cells (cl (List.replicate k 0)).toArray 84 (0, 0))
theorem Made.new (w : World) (k : Nat) : Made (w.alloc (.cells (madeCells #[.int .u32 0] k) 84)) w.heap.size k := by
  unfold Made
  rw [heap_alloc_new, cl_replicate, ← toList_madeCells_one]
theorem Made.row {w : World} {g k : Nat} (h : Made w g k) : Row w g (List.replicate k 0) := ⟨[], by rw [List.append_nil]; exact h⟩
theorem Made.kept {w w' : World} {g k : Nat} {r : Option Nat} (h : Made w g k) (hg : w.grownBy w' r) (hr : r ≠ some g) : Made w' g k := by
  unfold Made at *
  rw [hg.block g (Array.getElem?_eq_some_iff.1 h).1 (fun e => hr e.symm)]; exact h

/-- copy(out[off:], x), out a row of noughts -/
theorem wp_copy {w : World} {ops : Array Oper} {rest : List Oper} {o : Oper} {act : Act} {Q : Exit → Act → World → Prop} (hgd : o.guard = none) (d s : Operand)
    (ho : o.op = .call { callee := .builtin .copy, args := #[d, s], argTypes := #[33, 33] })
    (a dp : Option Addr) (n c k off g dl dc : Nat) (x : List Nat) (hd : act.eval d = .slice dp dl dc) (hs : act.eval s = .slice a n c) (hx : SL w a n c x) (hdl : n ≤ dl) (hk : off + n ≤ k) (hz : Made w g k) (hdp : 0 < n → dp = some ⟨g, off, none⟩)
    (h : ∀ w', Row w' g (List.replicate off 0 ++ x ++ List.replicate (k - off - n) 0) → w.grownBy w' (some g) → wpList Tryz.prog ops Q rest (act.put o.dst (goInt n)) w') : wpList Tryz.prog ops Q (o :: rest) act w := by
  have hxl := hx.len
  by_cases h0 : n = 0
  · subst h0
    obtain rfl : x = [] := List.length_eq_zero_iff.1 hxl
    refine wpList_copy_nothing hgd d s 33 33 ho 84 Tryz.underlying33 u32_size dp a dl dc 0 c hd hs (Nat.min_eq_left (by omega)) (h w ?_ (gb_refl _ _))
    have := hz.row
    rw [List.append_nil, List.replicate_append_replicate, show off + (k - off - 0) = k by omega]
    exact this
  · obtain ⟨bx, ox, hax, hcx⟩ := hx.at'
    obtain ⟨rfl, _⟩ := hax (by omega)
    obtain rfl := hdp (by omega)
    have hlt := (Array.getElem?_eq_some_iff.1 hz).1
    refine wpList_copy_own hgd d s 33 33 ho 84 Tryz.underlying33 u32_size g off dl dc ⟨bx, ox, none⟩ n c hd hs (cl (List.replicate k 0)).toArray 84 hz (cl x) (by rw [cl_length, hxl]; exact (Nat.min_eq_left (by omega)).symm) ?_ (by simp [cl_length]; omega) (cl_one x) ?_
    · intro j v hv
      have hj : j < x.length := by
        have := (List.getElem?_eq_some_iff.1 hv).1
        simpa [cl] using this
      rw [cl_get x j hj] at hv
      have hadd : (⟨bx, ox, none⟩ : Addr).add j = ⟨bx, ox + j, none⟩ := by simp [Addr.add]
      rw [hadd, ← hv]
      exact hcx j (by omega)
    · have h2 := h (w.setRow g ((cl (List.replicate k 0)).toArray.toList.take off ++ (cl x ++ (cl (List.replicate k 0)).toArray.toList.drop (off + (cl x).length))).toArray) ⟨[], ?_⟩ ⟨rfl, rfl, rfl, by simp [World.setRow], fun i hi hne => setRow_other w g i _ (fun e => hne (by rw [e]))⟩
      · rw [cl_length, hxl] at h2 ⊢
        exact h2
      · rw [setRow_heap w g _ _ _ _ hz]
        simp only [List.append_nil, cl_append, cl_length, hxl, List.toList_toArray, cl_take, cl_drop, List.take_replicate, List.drop_replicate, List.append_assoc]
        rw [Nat.min_eq_left (by omega), show k - (off + n) = k - off - n by omega]

theorem sum_val {x y N : List Nat} {n m cc : Nat} (hx : x.length = n) (hy : y.length = m) (lx : Lims x) (ly : Lims y) (hnm : m ≤ n) (hN : N.length = n + 1) (h : val N + B32 ^ (x ++ List.replicate 1 0).length * cc = val (x ++ List.replicate 1 0) + val y) : val N = val x + val y := by
  have h1 := val_lt x lx
  have h2 := val_lt y ly
  rw [hx] at h1
  rw [hy] at h2
  have h3 := pow_mono hnm
  have e1 : val (x ++ List.replicate 1 0) = val x := by rw [val_append, val_replicate_zero]; simp
  have e2 : (x ++ List.replicate 1 0).length = n + 1 := by simp; omega
  rw [e1, e2, Nat.pow_succ] at h
  have hB : 2 ≤ B32 := by decide
  generalize B32 ^ n = p at *
  generalize B32 ^ m = p' at *
  have h5 : p * 2 ≤ p * B32 := Nat.mul_le_mul_left _ hB
  generalize p * B32 = q at *
  by_cases hc : cc = 0
  · subst hc; rw [Nat.mul_zero] at h; omega
  · have h4 : q ≤ q * cc := Nat.le_mul_of_pos_right q (by omega)
    generalize q * cc = r at *
    omega

end Go.Proofs.YtcmhfeeocehlaaaGreatDoor
