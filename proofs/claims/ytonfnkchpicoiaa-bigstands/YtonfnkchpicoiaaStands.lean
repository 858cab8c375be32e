/-
  The walk of the law BigStands: it answers true.
-/
import Derived.Test.YtonfnkchpicoiaaAwake
import Derived.Test.YtonfnkchpicoiaaInt64b
namespace Go.Proofs.Ytonfnkchpicoiaa
set_option linter.unusedSimpArgs false
set_option linter.unusedVariables false
open Go.RowKit
attribute [local go_sem ↓] Go.wp_at_zero Go.wp_at_succ

set_option maxHeartbeats 3200000 in
theorem stands_walk (s : Bool) (a : Option Addr) (n c : Nat) (x : List Nat) (z : Int) (w : World) (hx : SL w a n c x) (h1 : -9223372036854775808 ≤ z) (h2 : z ≤ 9223372036854775807) :
    Calls Try.prog 3 #[.agg #[.bool s, .slice a n c], .int .i64 z] w fun e w' => e = .returned (.bool true) ∧ w.grownBy w' none := by
  obtain ⟨v, hv⟩ : ∃ v, (if inr (iv s x) = true then iv s x else 0) = v := ⟨_, rfl⟩
  obtain ⟨b, hb⟩ : ∃ b, inr (iv s x) = b := ⟨_, rfl⟩
  obtain ⟨p, hp⟩ : ∃ p, Std s x = p := ⟨_, rfl⟩
  have H64 : Hid (∀ w' : World, SL w' a n c x → Calls Try.prog 11 #[.agg #[.bool s, .slice a n c]] w' fun e w'' => e = .returned (.tuple #[.int .i64 v, .bool b]) ∧ w'.grownBy w'' none) := fun w' h => by
    have := int64_raw s a n c x w' h
    unfold I64Post at this
    rw [hv, hb] at this
    exact this
  have HR64 : Hid (∀ w' : World, SL w' a n c x → Calls Try.prog 14 #[.agg #[.bool s, .slice a n c]] w' fun e w'' => e = .returned (.tuple #[.int .i64 v, .bool b]) ∧ w'.grownBy w'' none) := fun w' h => by
    have := rint64_raw s a n c x w' h
    unfold I64Post at this
    rw [hv, hb] at this
    exact this
  have HVA : Hid (∀ w' : World, SL w' a n c x → Calls Try.prog 13 #[.agg #[.bool s, .slice a n c]] w' fun e w'' => e = .returned (.bool p) ∧ w'.grownBy w'' none) := fun w' h => by rw [← hp]; exact valid_raw s a n c x w' h
  have HRVA : Hid (∀ w' : World, SL w' a n c x → Calls Try.prog 18 #[.agg #[.bool s, .slice a n c]] w' fun e w'' => e = .returned (.bool p) ∧ w'.grownBy w'' none) := fun w' h => by rw [← hp]; exact rvalid_raw s a n c x w' h
  have HX64 : Hid (∀ (w' : World) (s2 : Bool) (a2 : Option Addr) (l2 : List Nat), SL w' a2 l2.length l2.length l2 → iv s2 l2 = z → Calls Try.prog 11 #[.agg #[.bool s2, .slice a2 l2.length l2.length]] w' fun e w'' => e = .returned (.tuple #[.int .i64 z, .bool true]) ∧ w'.grownBy w'' none) := fun w' s2 a2 l2 h e => by
    have := int64_raw s2 a2 _ _ l2 w' h
    unfold I64Post at this
    have hi : inr z = true := by unfold inr; simp; omega
    rw [e, hi, if_pos rfl] at this
    exact this
  clear hv hb hp
  go_enter Try.func3, Try.ntmps3
  go_wp2_with fail
  refine (awake_raw _).mono ?_
  rintro e w1 ⟨rfl, hg1⟩
  obtain ⟨hc1, hf1, hz1⟩ := box_kept w.heap.size hg1 (by first | (simp; done) | (simp; omega) | omega)
  go_wp2_with fail
  refine (of_raw z _ h1 h2).mono ?_
  rintro e w2 ⟨s2, a2, l2, rfl, ho2, hn2, hs2, hi2, hk2, ha2, hg2⟩
  have HI2 := hid hi2
  clear hi2
  obtain ⟨hc2, hf2, hz2⟩ := box_kept w.heap.size hg2 (by first | (simp; done) | (simp; omega) | omega)
  go_wp2_with fail
  refine (HX64.out _ s2 a2 l2 (by exact ho2.sl.grown (by repeat (first | exact gb_refl _ _ | apply gb_drew | apply gb_alloc | (refine gb_then ?_ (by assumption) (by simp))))) HI2.out).mono ?_
  rintro e w3 ⟨rfl, hg3⟩
  obtain ⟨hc3, hf3, hz3⟩ := box_kept w.heap.size hg3 (by first | (simp; done) | (simp; omega) | omega)
  go_wp2_with fail
  refine (norm_raw s a n c x _ (by exact hx.grown (by repeat (first | exact gb_refl _ _ | apply gb_drew | apply gb_alloc | (refine gb_then ?_ (by assumption) (by simp)))))).mono ?_
  rintro e w4 ⟨s4, a4, l4, rfl, ho4, hn4, hs4, hi4, hk4, ha4, hg4⟩
  have HI4 := hid hi4
  clear hi4
  obtain ⟨hc4, hf4, hz4⟩ := box_kept w.heap.size hg4 (by first | (simp; done) | (simp; omega) | omega)
  go_wp2_with fail
  refine (HVA.out _ (by exact hx.grown (by repeat (first | exact gb_refl _ _ | apply gb_drew | apply gb_alloc | (refine gb_then ?_ (by assumption) (by simp)))))).mono ?_
  rintro e w5 ⟨rfl, hg5⟩
  obtain ⟨hc5, hf5, hz5⟩ := box_kept w.heap.size hg5 (by first | (simp; done) | (simp; omega) | omega)
  go_wp2_with fail
  refine (H64.out _ (by exact hx.grown (by repeat (first | exact gb_refl _ _ | apply gb_drew | apply gb_alloc | (refine gb_then ?_ (by assumption) (by simp)))))).mono ?_
  rintro e w6 ⟨rfl, hg6⟩
  obtain ⟨hc6, hf6, hz6⟩ := box_kept w.heap.size hg6 (by first | (simp; done) | (simp; omega) | omega)
  go_wp2_with fail
  refine (HR64.out _ (by exact hx.grown (by repeat (first | exact gb_refl _ _ | apply gb_drew | apply gb_alloc | (refine gb_then ?_ (by assumption) (by simp)))))).mono ?_
  rintro e w7 ⟨rfl, hg7⟩
  have BA : Bx w7 w.heap.size (.bool s) (.slice a n c) := (Bx.new w _ _ _ 24 rfl).kept (by repeat (first | exact gb_refl _ _ | apply gb_drew | apply gb_alloc | (refine gb_then ?_ (by assumption) (by simp)))) (by simp)
  have BX : Bx w7 w2.heap.size (.bool s2) (.slice a2 l2.length l2.length) := (Bx.new w2 _ _ _ 24 rfl).kept (by repeat (first | exact gb_refl _ _ | apply gb_drew | apply gb_alloc | (refine gb_then ?_ (by assumption) (by simp)))) (by simp)
  have BN : Bx w7 w4.heap.size (.bool s4) (.slice a4 l4.length l4.length) := (Bx.new w4 _ _ _ 24 rfl).kept (by repeat (first | exact gb_refl _ _ | apply gb_drew | apply gb_alloc | (refine gb_then ?_ (by assumption) (by simp)))) (by simp)
  have SX : SL w7 a2 l2.length l2.length l2 := ho2.sl.grown (by repeat (first | exact gb_refl _ _ | apply gb_drew | apply gb_alloc | (refine gb_then ?_ (by assumption) (by simp))))
  have SN : SL w7 a4 l4.length l4.length l4 := ho4.sl.grown (by repeat (first | exact gb_refl _ _ | apply gb_drew | apply gb_alloc | (refine gb_then ?_ (by assumption) (by simp))))
  have SA : SL w7 a n c x := hx.grown (by repeat (first | exact gb_refl _ _ | apply gb_drew | apply gb_alloc | (refine gb_then ?_ (by assumption) (by simp))))
  have G7 : w.grownBy w7 none := (by repeat (first | exact gb_refl _ _ | apply gb_drew | apply gb_alloc | (refine gb_then ?_ (by assumption) (by simp))))
  have q0 := BA.c0
  have q1 := BA.c1
  have q2 := BX.c0
  have q3 := BX.c1
  have q4 := BN.c0
  have q5 := BN.c1
  have q6 := BA.lt
  have q7 := BX.lt
  have q8 := BN.lt
  clear hg1 hg2 hg3 hg4 hg5 hg6 hg7 hc1 hf1 hz1 hc2 hf2 hz2 hc3 hf3 hz3 hc4 hf4 hz4 hc5 hf5 hz5 hc6 hf6 hz6 BA BX BN ho2 ho4
  go_wp2
  go_region_held3 (fun w' => w'.cell? ⟨w.heap.size, 0, none⟩ = some (.bool s) ∧ w'.cell? ⟨w.heap.size, 1, none⟩ = some (.slice a n c) ∧ w'.cell? ⟨w2.heap.size, 0, none⟩ = some (.bool s2) ∧ w'.cell? ⟨w2.heap.size, 1, none⟩ = some (.slice a2 l2.length l2.length) ∧ w'.cell? ⟨w4.heap.size, 0, none⟩ = some (.bool s4) ∧ w'.cell? ⟨w4.heap.size, 1, none⟩ = some (.slice a4 l4.length l4.length)) (go_keep) (first
    | (go_at_call 16; refine (rof_raw z _ h1 h2).mono ?_; rintro e w8 ⟨s8, a8, l8, rfl, ho8, hn8, hs8, hi8, hk8, hg8⟩; have HI8 := hid hi8; clear hi8; obtain ⟨hc8, hf8, hz8⟩ := box_kept w.heap.size hg8 (by first | (simp; done) | (simp; omega) | omega); obtain ⟨hd8, he8, hy8⟩ := box_kept w2.heap.size hg8 (by first | (simp; done) | (simp; omega) | omega); obtain ⟨hp8, hq8, hr8⟩ := box_kept w4.heap.size hg8 (by first | (simp; done) | (simp; omega) | omega))
    | (go_at_call_of 15 (Value.agg #[Value.bool s2, Value.slice a2 l2.length l2.length]); refine (is_true s2 s8 a2 a8 _ _ _ _ l2 l8 _ (by exact SX.grown (by repeat (first | exact gb_refl _ _ | apply gb_drew | apply gb_alloc | (refine gb_then ?_ (by assumption) (by simp))))) (by exact ho8.sl.grown (by repeat (first | exact gb_refl _ _ | apply gb_drew | apply gb_alloc | (refine gb_then ?_ (by assumption) (by simp))))) (std_of hn2 hs2) (by rw [HI2.out, HI8.out])).mono ?_; rintro e w9 ⟨rfl, hg9⟩; obtain ⟨hc9, hf9, hz9⟩ := box_kept w.heap.size hg9 (by first | (simp; done) | (simp; omega) | omega); obtain ⟨hd9, he9, hy9⟩ := box_kept w2.heap.size hg9 (by first | (simp; done) | (simp; omega) | omega); obtain ⟨hp9, hq9, hr9⟩ := box_kept w4.heap.size hg9 (by first | (simp; done) | (simp; omega) | omega))
    | (go_at_call 17; refine (rnorm_raw s a n c x _ (by exact SA.grown (by repeat (first | exact gb_refl _ _ | apply gb_drew | apply gb_alloc | (refine gb_then ?_ (by assumption) (by simp)))))).mono ?_; rintro e w10 ⟨s10, a10, l10, rfl, ho10, hn10, hs10, hi10, hk10, hg10⟩; have HI10 := hid hi10; clear hi10; obtain ⟨hc10, hf10, hz10⟩ := box_kept w.heap.size hg10 (by first | (simp; done) | (simp; omega) | omega); obtain ⟨hd10, he10, hy10⟩ := box_kept w2.heap.size hg10 (by first | (simp; done) | (simp; omega) | omega); obtain ⟨hp10, hq10, hr10⟩ := box_kept w4.heap.size hg10 (by first | (simp; done) | (simp; omega) | omega))
    | (go_at_call_of 15 (Value.agg #[Value.bool s4, Value.slice a4 l4.length l4.length]); refine (is_true s4 s10 a4 a10 _ _ _ _ l4 l10 _ (by exact SN.grown (by repeat (first | exact gb_refl _ _ | apply gb_drew | apply gb_alloc | (refine gb_then ?_ (by assumption) (by simp))))) (by exact ho10.sl.grown (by repeat (first | exact gb_refl _ _ | apply gb_drew | apply gb_alloc | (refine gb_then ?_ (by assumption) (by simp))))) (std_of hn4 hs4) (by rw [HI4.out, HI10.out])).mono ?_; rintro e w11 ⟨rfl, hg11⟩; obtain ⟨hc11, hf11, hz11⟩ := box_kept w.heap.size hg11 (by first | (simp; done) | (simp; omega) | omega); obtain ⟨hd11, he11, hy11⟩ := box_kept w2.heap.size hg11 (by first | (simp; done) | (simp; omega) | omega); obtain ⟨hp11, hq11, hr11⟩ := box_kept w4.heap.size hg11 (by first | (simp; done) | (simp; omega) | omega))
    | (go_at_call 18; refine (HRVA.out _ (by exact SA.grown (by repeat (first | exact gb_refl _ _ | apply gb_drew | apply gb_alloc | (refine gb_then ?_ (by assumption) (by simp)))))).mono ?_; rintro e w12 ⟨rfl, hg12⟩; obtain ⟨hc12, hf12, hz12⟩ := box_kept w.heap.size hg12 (by first | (simp; done) | (simp; omega) | omega); obtain ⟨hd12, he12, hy12⟩ := box_kept w2.heap.size hg12 (by first | (simp; done) | (simp; omega) | omega); obtain ⟨hp12, hq12, hr12⟩ := box_kept w4.heap.size hg12 (by first | (simp; done) | (simp; omega) | omega)))
  all_goals go_wp2
  all_goals go_ret
  all_goals exact ⟨by first | rfl | simp, (by repeat (first | exact gb_refl _ _ | apply gb_drew | apply gb_alloc | (refine gb_then ?_ (by assumption) (by simp))))⟩
end Go.Proofs.Ytonfnkchpicoiaa
