/-
  awake: the answers that the document fixes are those of the program.
-/
import Derived.Test.YtonfnkchpicoiaaAwake1
namespace Go.Proofs.Ytonfnkchpicoiaa
set_option linter.unusedSimpArgs false
set_option linter.unusedVariables false
open Go.RowKit
attribute [local go_sem ↓] Go.wp_at_zero Go.wp_at_succ

theorem iv_pos {s : Bool} {l : List Nat} {z : Nat} (h : iv s l = z) (hz : 0 < z) : val l = z := by
  unfold iv at h
  split at h <;> omega
theorem iv_neg {s : Bool} {l : List Nat} {z : Nat} (h : iv s l = -(z : Int)) (hz : 0 < z) : val l = z := by
  unfold iv at h
  split at h <;> omega

theorem divmod_awake (s1 s2 : Bool) (a1 a2 : Option Addr) (n1 c1 n2 c2 : Nat) (l1 l2 : List Nat) (w : World) (h1 : SL w a1 n1 c1 l1) (h2 : SL w a2 n2 c2 l2) (e1 : iv s1 l1 = -7) (e2 : iv s2 l2 = 2) (k1 : n1 ≤ 2) (k2 : n2 ≤ 2) :
    Calls Try.prog 33 #[.agg #[.bool s1, .slice a1 n1 c1], .agg #[.bool s2, .slice a2 n2 c2]] w fun e w' => ∃ sq aq lq sr ar lr, e = .returned (.tuple #[.agg #[.bool sq, .slice aq lq.length lq.length], .agg #[.bool sr, .slice ar lr.length lr.length], .int .i64 0]) ∧
      SL w' aq lq.length lq.length lq ∧ SL w' ar lr.length lr.length lr ∧ Std sq lq = true ∧ Std sr lr = true ∧ iv sq lq = -4 ∧ iv sr lr = 1 ∧ w.grownBy w' none := by
  have v1 : val l1 = 7 := iv_neg (z := 7) e1 (by omega)
  have v2 : val l2 = 2 := iv_pos (z := 2) e2 (by omega)
  have t2 : tr l2 = [2] := nrm_inj (lims_tr h2.lim) (by intro x hx; simp at hx; omega) (nrm_tr l2) (.inr (by simp)) (by rw [val_tr, v2]; simp [val])
  refine (divmod_raw s1 s2 a1 a2 n1 c1 n2 c2 l1 l2 w h1 h2 (by rw [t2]; simp) (by omega) (by omega) ?_).mono ?_
  · intro w' a b ha hb hz
    rw [t2] at hb ⊢
    exact divide_one a b _ _ 1 2 (tr l1) w' ha hb (nrm_tr l1) (by omega) (by rw [val_tr, v1]; omega)
  · rintro e w' ⟨sq, aq, lq, sr, ar, lr, rfl, hq, hr, _, nq, nr, hsq, hsr, hdm, _, _, hg⟩
    rw [e1, e2] at hdm
    obtain ⟨d1, d2⟩ := hdm
    exact ⟨sq, aq, lq, sr, ar, lr, rfl, hq.sl, hr.sl, std_of nq hsq, std_of nr hsr, by omega, by omega, hg⟩

theorem is_true (s t : Bool) (a b : Option Addr) (n c m d : Nat) (x y : List Nat) (w : World) (hx : SL w a n c x) (hy : SL w b m d y) (h1 : Std s x = true) (h2 : iv s x = iv t y) :
    Calls Try.prog 15 #[.agg #[.bool s, .slice a n c], .agg #[.bool t, .slice b m d]] w fun e w' => e = .returned (.bool true) ∧ w.grownBy w' none := by
  have := is_raw s t a b n c m d x y w hx hy
  rw [h1, h2] at this
  simp only [decide_true, Bool.and_self] at this
  exact this.mono fun _ _ h => h

set_option maxHeartbeats 1600000 in
theorem awake_raw (w : World) : Calls Try.prog 9 #[] w (BoolPost w true) := by
  go_enter Try.func9, Try.ntmps9
  go_wp2_with fail
  refine (of_raw (-7) _ (by omega) (by omega)).mono ?_
  rintro e w1 ⟨s1, a1, l1, rfl, ho1, hn1, hs1, hi1, hk1, ha1, hg1⟩
  have HI1 := hid hi1
  clear hi1
  go_wp2_with fail
  refine (of_raw 2 _ (by omega) (by omega)).mono ?_
  rintro e w2 ⟨s2, a2, l2, rfl, ho2, hn2, hs2, hi2, hk2, ha2, hg2⟩
  have HI2 := hid hi2
  clear hi2
  go_wp2_with fail
  refine (divmod_awake s1 s2 a1 a2 _ _ _ _ l1 l2 _ (by exact ho1.sl.grown (by repeat (first | exact gb_refl _ _ | apply gb_drew | apply gb_alloc | (refine gb_then ?_ (by assumption) (by simp))))) (by exact ho2.sl) HI1.out HI2.out hk1 hk2).mono ?_
  rintro e w3 ⟨sq, aq, lq, sr, ar, lr, rfl, hq3, hr3, vq3, vr3, iq3, ir3, hg3⟩
  have HQ := hid iq3
  have HR := hid ir3
  have HVQ := hid vq3
  have HVR := hid vr3
  clear iq3 ir3 vq3 vr3
  go_wp2_with fail
  refine (parse_awake _).mono ?_
  rintro e w4 ⟨s4, a4, l4, rfl, ho4, hn4, hs4, hi4, hk4, hg4⟩
  have HI4 := hid hi4
  clear hi4
  go_wp2_with fail
  have hz34 : w3.heap.size + 1 + 1 ≤ w4.heap.size := by have := hg4.size; simp at this; omega
  go_region_held3 (fun w' => w'.cell? ⟨w4.heap.size, 0, none⟩ = some (.bool s4) ∧ w'.cell? ⟨w4.heap.size, 1, none⟩ = some (.slice a4 l4.length l4.length)) (go_keep) (first
    | (go_at_call 10; refine (of_raw (-3) _ (by omega) (by omega)).mono ?_; rintro e w5 ⟨s5, a5, l5, rfl, ho5, hn5, hs5, hi5, hk5, ha5, hg5⟩; have HI5 := hid hi5; clear hi5; obtain ⟨hp5, hq5, hr5⟩ := box_kept w4.heap.size hg5 (by first | (simp; done) | (simp; omega) | omega))
    | (go_at_call 25; refine (mul_raw s5 s4 a5 a4 _ _ _ _ l5 l4 _ (by exact ho5.sl.grown (by repeat (first | exact gb_refl _ _ | apply gb_drew | apply gb_alloc | (refine gb_then ?_ (by assumption) (by simp))))) (by exact ho4.sl.grown (by repeat (first | exact gb_refl _ _ | apply gb_drew | apply gb_alloc | (refine gb_then ?_ (by assumption) (by simp))))) (by omega)).mono ?_; rintro e w6 ⟨s6, a6, l6, rfl, ho6, hn6, hs6, hi6, hk6, ha6, hg6⟩; have HI6 := hid hi6; clear hi6; obtain ⟨hp6, hq6, hr6⟩ := box_kept w4.heap.size hg6 (by first | (simp; done) | (simp; omega) | omega))
    | (go_at_call 37; refine (text_awake s6 a6 _ _ l6 _ (by exact ho6.sl) (by omega) (by rw [HI6.out, HI5.out, HI4.out]; decide)).mono ?_; rintro e w7 ⟨rfl, hg7⟩; obtain ⟨hp7, hq7, hr7⟩ := box_kept w4.heap.size hg7 (by first | (simp; done) | (simp; omega) | omega)))
  all_goals
    have BQ : Bx w7 w3.heap.size (.bool sq) (.slice aq lq.length lq.length) := (Bx.new w3 _ _ _ 24 rfl).kept (by repeat (first | exact gb_refl _ _ | apply gb_drew | apply gb_alloc | (refine gb_then ?_ (by assumption) (by simp)))) (by simp)
    have BR : Bx w7 (w3.heap.size + 1) (.bool sr) (.slice ar lr.length lr.length) := (Bx.new (w3.alloc (.cells #[.bool sq, .slice aq lq.length lq.length] 24)) _ _ _ 24 (by simp)).kept (by repeat (first | exact gb_refl _ _ | apply gb_drew | apply gb_alloc | (refine gb_then ?_ (by assumption) (by simp)))) (by simp)
    have hq7' : SL w7 aq lq.length lq.length lq := hq3.grown (by repeat (first | exact gb_refl _ _ | apply gb_drew | apply gb_alloc | (refine gb_then ?_ (by assumption) (by simp))))
    have hr7' : SL w7 ar lr.length lr.length lr := hr3.grown (by repeat (first | exact gb_refl _ _ | apply gb_drew | apply gb_alloc | (refine gb_then ?_ (by assumption) (by simp))))
    have G7 : w.grownBy w7 none := (by repeat (first | exact gb_refl _ _ | apply gb_drew | apply gb_alloc | (refine gb_then ?_ (by assumption) (by simp))))
    have q0 := BQ.c0
    have q1 := BQ.c1
    have r0 := BR.c0
    have r1 := BR.c1
    have q2 := BQ.lt
    have r2 := BR.lt
    clear hg1 hg2 hg3 hg4 hg5 hg6 hg7 hp5 hq5 hr5 hp6 hq6 hr6 hp7 hq7 hr7 ho1 ho2 ho4 ho5 ho6 HI1 HI2 HI4 HI5 HI6 hq3 hr3 BQ BR hz34
    go_wp2
    go_region_held3 (fun w' => w'.cell? ⟨w3.heap.size, 0, none⟩ = some (.bool sq) ∧ w'.cell? ⟨w3.heap.size, 1, none⟩ = some (.slice aq lq.length lq.length) ∧ w'.cell? ⟨w3.heap.size + 1, 0, none⟩ = some (.bool sr) ∧ w'.cell? ⟨w3.heap.size + 1, 1, none⟩ = some (.slice ar lr.length lr.length)) (go_keep) (first
      | (go_at_call_of 16 (Value.int IntKind.i64 1); refine (rof_raw 1 _ (by omega) (by omega)).mono ?_; rintro e w10 ⟨s10, a10, l10, rfl, ho10, hn10, hs10, hi10, hk10, hg10⟩; have HI10 := hid hi10; clear hi10; obtain ⟨hc10, hf10, hz10⟩ := box_kept w3.heap.size hg10 (by first | (simp; done) | (simp; omega) | omega); obtain ⟨hd10, he10, hy10⟩ := box_kept (w3.heap.size + 1) hg10 (by first | (simp; done) | (simp; omega) | omega))
      | (go_at_call 16; refine (rof_raw (-4) _ (by omega) (by omega)).mono ?_; rintro e w8 ⟨s8, a8, l8, rfl, ho8, hn8, hs8, hi8, hk8, hg8⟩; have HI8 := hid hi8; clear hi8; obtain ⟨hc8, hf8, hz8⟩ := box_kept w3.heap.size hg8 (by first | (simp; done) | (simp; omega) | omega); obtain ⟨hd8, he8, hy8⟩ := box_kept (w3.heap.size + 1) hg8 (by first | (simp; done) | (simp; omega) | omega))
      | (go_at_call_of 15 (Value.agg #[Value.bool sq, Value.slice aq lq.length lq.length]); refine (is_true sq s8 aq a8 _ _ _ _ lq l8 _ (by exact hq7'.grown (by repeat (first | exact gb_refl _ _ | apply gb_drew | apply gb_alloc | (refine gb_then ?_ (by assumption) (by simp))))) (by exact ho8.sl.grown (by repeat (first | exact gb_refl _ _ | apply gb_drew | apply gb_alloc | (refine gb_then ?_ (by assumption) (by simp))))) HVQ.out (by rw [HQ.out, HI8.out])).mono ?_; rintro e w9 ⟨rfl, hg9⟩; obtain ⟨hc9, hf9, hz9⟩ := box_kept w3.heap.size hg9 (by first | (simp; done) | (simp; omega) | omega); obtain ⟨hd9, he9, hy9⟩ := box_kept (w3.heap.size + 1) hg9 (by first | (simp; done) | (simp; omega) | omega))
      | (go_at_call_of 15 (Value.agg #[Value.bool sr, Value.slice ar lr.length lr.length]); refine (is_true sr s10 ar a10 _ _ _ _ lr l10 _ (by exact hr7'.grown (by repeat (first | exact gb_refl _ _ | apply gb_drew | apply gb_alloc | (refine gb_then ?_ (by assumption) (by simp))))) (by exact ho10.sl.grown (by repeat (first | exact gb_refl _ _ | apply gb_drew | apply gb_alloc | (refine gb_then ?_ (by assumption) (by simp))))) HVR.out (by rw [HR.out, HI10.out])).mono ?_; rintro e w11 ⟨rfl, hg11⟩; obtain ⟨hc11, hf11, hz11⟩ := box_kept w3.heap.size hg11 (by first | (simp; done) | (simp; omega) | omega); obtain ⟨hd11, he11, hy11⟩ := box_kept (w3.heap.size + 1) hg11 (by first | (simp; done) | (simp; omega) | omega)))
    all_goals go_wp2
    all_goals go_ret
    all_goals exact ⟨rfl, (by repeat (first | exact gb_refl _ _ | apply gb_drew | apply gb_alloc | (refine gb_then ?_ (by assumption) (by simp))))⟩
end Go.Proofs.Ytonfnkchpicoiaa
