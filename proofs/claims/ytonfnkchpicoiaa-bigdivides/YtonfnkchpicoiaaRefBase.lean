/-
  The reference: trim, at, natCmp, Norm, Valid, Sign, Cmp, Same, Is.
-/
import Derived.Test.YtonfnkchpicoiaaCmp2
import Derived.Test.YtonfnkchpicoiaaOf
namespace Go.Proofs.Ytonfnkchpicoiaa
set_option linter.unusedSimpArgs false
set_option linter.unusedVariables false
open Go.RowKit
attribute [local go_sem ↓] Go.wp_at_zero Go.wp_at_succ

/-- copy(out, x), out a row of k noughts, x no shorter -/
theorem wp_copy_cut {w : World} {ops : Array Oper} {rest : List Oper} {o : Oper} {act : Act} {Q : Exit → Act → World → Prop} (hgd : o.guard = none) (d s : Operand)
    (ho : o.op = .call { callee := .builtin .copy, args := #[d, s], argTypes := #[22, 22] })
    (a : Option Addr) (n c k g dc : Nat) (x : List Nat) (hd : act.eval d = .slice (some ⟨g, 0, none⟩) k dc) (hs : act.eval s = .slice a n c) (hx : SL w a n c x) (hk : k ≤ n) (hz : Made w g k)
    (h : ∀ w', Row w' g (x.take k) → w.grownBy w' (some g) → wpList Try.prog ops Q rest (act.put o.dst (goInt k)) w') : wpList Try.prog ops Q (o :: rest) act w := by
  have hxl := hx.len
  have htl : (x.take k).length = k := by rw [List.length_take]; omega
  by_cases h0 : k = 0
  · subst h0
    refine wpList_copy_nothing hgd d s 22 22 ho 47 Try.underlying22 u32_size _ a 0 dc n c hd hs (Nat.min_eq_right (by omega)) (h w ?_ (gb_refl _ _))
    have := hz.row
    simpa using this
  · obtain ⟨bx, ox, hax, hcx⟩ := hx.at'
    obtain ⟨rfl, _⟩ := hax (by omega)
    refine wpList_copy_own hgd d s 22 22 ho 47 Try.underlying22 u32_size g 0 k dc ⟨bx, ox, none⟩ n c hd hs (cl (List.replicate k 0)).toArray 47 hz (cl (x.take k)) (by rw [cl_length, htl]; exact (Nat.min_eq_right (by omega)).symm) ?_ (by simp [cl_length]; omega) (cl_one _) ?_
    · intro j v hv
      have hj : j < (x.take k).length := by
        have := (List.getElem?_eq_some_iff.1 hv).1
        simpa [cl] using this
      rw [cl_get _ j hj] at hv
      have hadd : (⟨bx, ox, none⟩ : Addr).add j = ⟨bx, ox + j, none⟩ := by simp [Addr.add]
      rw [hadd, ← hv, getD_take _ _ _ (by omega)]
      exact hcx j (by omega)
    · have h2 := h (w.setRow g ((cl (List.replicate k 0)).toArray.toList.take 0 ++ (cl (x.take k) ++ (cl (List.replicate k 0)).toArray.toList.drop (0 + (cl (x.take k)).length))).toArray) ⟨[], ?_⟩ ⟨rfl, rfl, rfl, by simp [World.setRow], fun i hi hne => setRow_other w g i _ (fun e => hne (by rw [e]))⟩
      · rw [cl_length, htl] at h2 ⊢
        exact h2
      · rw [setRow_heap w g _ _ _ _ hz]
        simp only [List.append_nil, cl_length, htl, List.toList_toArray, List.take_zero, List.nil_append, Nat.zero_add, cl_drop, List.drop_replicate, Nat.sub_self, List.replicate_zero]
        simp [cl]

/-- what the reference's trim answers: the limbs in new memory -/
def RTrimPost (w : World) (l : List Nat) (e : Ending) (w' : World) : Prop :=
  ∃ g, e = .returned (.slice (some ⟨g, 0, none⟩) (tr l).length (tr l).length) ∧ Row w' g (tr l) ∧ w.heap.size ≤ g ∧ w.grownBy w' none

set_option maxHeartbeats 800000 in
theorem rtrim_raw (a : Option Addr) (n c : Nat) (l : List Nat) (w : World) (h : SL w a n c l) :
    Calls Try.prog 47 #[.slice a n c] w (RTrimPost w l) := by
  have hx := h
  obtain ⟨hlen, hcap, hbig, hcm, hlim, hnil, b, off, ha, hcell⟩ := h
  have hle := tl_le l n
  go_enter Try.func47, Try.ntmps47
  go_wp2
  go_loop [3] (fun i => ∃ k : Nat, k ≤ n ∧ i = .int .i64 k ∧ tl l k = tl l n) (fun i => (intOf i).toNat)
  case atStart => exact ⟨n, Nat.le_refl _, rfl, rfl⟩
  case round =>
    obtain ⟨k, hk, rfl, he⟩ := hrel
    have HE : Hid (tl l k = tl l n) := he
    clear he
    by_cases hz : k = 0 ∨ (0 < k ∧ l.getD (k - 1) 0 ≠ 0)
    · have hkk : tl l k = k := by
        rcases hz with rfl | hz
        · rfl
        · cases k with
          | zero => rfl
          | succ m => rw [tl, if_neg (by simpa using hz.2)]
      have HK : Hid ((tr l).length = k) := by
        show _ = _
        rw [tr_length, hlen, ← HE.out, hkk]
      have htr : tr l = l.take k := by unfold tr; rw [hlen, ← HE.out, hkk]
      have HTR := hid htr
      have hmk := fun u => make_row k (by omega) u
      have hzz := Made.new w k
      have hx1 := hx.grown (World.grownBy_alloc w (.cells (madeCells #[.int .u32 0] k) 47) none)
      have hfin : ∀ w2 : World, Row w2 w.heap.size (l.take k) → (w.alloc (.cells (madeCells #[.int .u32 0] k) 47)).grownBy w2 (some w.heap.size) → RTrimPost w l (.returned (.slice (some ⟨w.heap.size, 0, none⟩) k k)) w2 := by
        intro w2 hr2 hg2
        refine ⟨w.heap.size, by rw [HK.out], by rw [HTR.out]; exact hr2, Nat.le_refl _, gb_then (World.grownBy_alloc w _ none) hg2 (fun i e => by cases e; exact Nat.le_refl _)⟩
      have HF := hid hfin
      clear hfin htr hkk
      rcases hz with rfl | hz
      · clear hcell ha
        have hmk0 : ∀ u, (Instr.makeSlice 22 (.int .i64 0) (.int .i64 0)).run Try.prog u = _ := fun u => make_row 0 (by omega) u
        go_wp2_with (refine wp_copy_cut rfl (.tmp 21) (.tmp 22) rfl a n c 0 w.heap.size 0 l rfl rfl hx1 (by omega) hzz ?_; intro w2 hr2 hg2)
        go_ret
        exact HF.out w2 hr2 hg2
      · obtain ⟨hk0, hz⟩ := hz
        obtain ⟨m, rfl⟩ : ∃ m, k = m + 1 := ⟨k - 1, by omega⟩
        rw [Nat.add_sub_cancel] at hz
        obtain ⟨rfl, _⟩ := ha (by omega)
        have hcm := hcell m (by omega)
        have hne : (((l.getD m 0 : Nat) : Int) == 0) = false := by rw [beq_eq_false_iff_ne]; omega
        have ec : ((m + 1 : Nat) : Int) = (m : Int) + 1 := by omega
        have hmk1 := hmk
        rw [ec] at hmk1
        clear hcell ha
        generalize l.getD m 0 = p at *
        go_wp2_with (refine wp_copy_cut rfl (.tmp 21) (.tmp 22) rfl _ n c (m + 1) w.heap.size (m + 1) l rfl rfl hx1 (by omega) hzz ?_; intro w2 hr2 hg2)
        go_ret
        exact HF.out w2 hr2 hg2
    · have hk0 : k ≠ 0 := fun e => hz (.inl e)
      obtain ⟨m, rfl⟩ : ∃ m, k = m + 1 := ⟨k - 1, by omega⟩
      have hz2 : l.getD m 0 = 0 := by
        by_cases h : l.getD m 0 = 0
        · exact h
        · exact absurd (.inr ⟨by omega, by simpa using h⟩) hz
      obtain ⟨rfl, _⟩ := ha (by omega)
      have hcm := hcell m (by omega)
      rw [hz2] at hcm
      have HZ := hid hz2
      clear hcell ha hz2 hz
      go_wp2
      go_round
      case rel => exact ⟨m, by omega, by go_num, by rw [← HE.out, tl_zero l m HZ.out]⟩
      case measure => simp [intOf]
end Go.Proofs.Ytonfnkchpicoiaa
