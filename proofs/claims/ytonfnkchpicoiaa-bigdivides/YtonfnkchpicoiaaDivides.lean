/-
  The walk of the law BigDivides: it answers true.
-/
import Derived.Test.YtonfnkchpicoiaaAwake
import Derived.Test.YtonfnkchpicoiaaDivPair
import Derived.Test.YtonfnkchpicoiaaRefDivMod
namespace Go.Proofs.Ytonfnkchpicoiaa
set_option linter.unusedSimpArgs false
set_option linter.unusedVariables false
open Go.RowKit
attribute [local go_sem ↓] Go.wp_at_zero Go.wp_at_succ

set_option maxHeartbeats 3200000 in
theorem rdivmod_zero (s t : Bool) (a b : Option Addr) (n c m d : Nat) (x y : List Nat) (w : World) (hx : SL w a n c x) (hy : SL w b m d y) (h0 : tr y = []) :
    Calls Try.prog 34 #[.agg #[.bool s, .slice a n c], .agg #[.bool t, .slice b m d]] w (DivZero w) := by
  have hne1 : ¬ (w.heap.size + 1 + 1 = w.heap.size) := by omega
  have hne2 : ¬ (w.heap.size + 1 + 1 = w.heap.size + 1) := by omega
  have hne3 : ¬ (w.heap.size + 1 + 1 + 1 = w.heap.size) := by omega
  have hne4 : ¬ (w.heap.size + 1 + 1 + 1 = w.heap.size + 1) := by omega
  have hne6 : ¬ (w.heap.size + 1 + 1 = w.heap.size + 1 + 1 + 1) := by omega
  have hne5 : ¬ (w.heap.size + 1 + 1 + 1 = w.heap.size + 1 + 1) := by omega
  have hsg0 : (sgn (iv t y) == 0) = true := by
    rw [sgn_zero, decide_eq_true_eq]
    exact iv_zero.2 h0
  go_enter Try.func34, Try.ntmps34
  go_wp2_with fail
  refine (rsign_raw t b m d y _ (by exact hy.grown (by repeat (first | exact gb_refl _ _ | apply gb_drew | apply gb_alloc | (refine gb_then ?_ (by assumption) (by simp)))))).mono ?_
  rintro e w1 ⟨rfl, hg1⟩
  have B2 : Bx w1 (w.heap.size + 1 + 1) (.bool false) (.slice none 0 0) := (Bx.new ((w.alloc (.cells #[.bool s, .slice a n c] 24)).alloc (.cells #[.bool t, .slice b m d] 24)) _ _ _ 24 (by simp)).kept (by repeat (first | exact gb_refl _ _ | apply gb_drew | apply gb_alloc | (refine gb_then ?_ (by assumption) (by simp)))) (by simp)
  have B3 : Bx w1 (w.heap.size + 1 + 1 + 1) (.bool false) (.slice none 0 0) := (Bx.new (((w.alloc (.cells #[.bool s, .slice a n c] 24)).alloc (.cells #[.bool t, .slice b m d] 24)).alloc (.cells #[.bool false, .slice none 0 0] 24)) _ _ _ 24 (by simp)).kept (by repeat (first | exact gb_refl _ _ | apply gb_drew | apply gb_alloc | (refine gb_then ?_ (by assumption) (by simp)))) (by simp)
  have c20 := B2.c0
  have c21 := B2.c1
  have c22 := B2.f0
  have c23 := B2.f1
  have c24 := B2.lt
  have c30 := B3.c0
  have c31 := B3.c1
  have c32 := B3.f0
  have c33 := B3.f1
  have c34 := B3.lt
  go_wp2
  have D2 := (B2.put (.bool false) (.slice none 0 0)).other hne6 (.bool false) (.slice none 0 0)
  have D3 := (B3.other hne5 (.bool false) (.slice none 0 0)).put (.bool false) (.slice none 0 0)
  refine bodyPost_ret (v := .tuple #[.agg #[.bool false, .slice none 0 0], .agg #[.bool false, .slice none 0 0], .int .i64 10]) (by simp [results, Try.results34, go_sem, D2.c0, D2.c1, D3.c0, D3.c1]) rfl ⟨rfl, ?_⟩
  exact puts_new (show w.grownBy w1 none from (by repeat (first | exact gb_refl _ _ | apply gb_drew | apply gb_alloc | (refine gb_then ?_ (by assumption) (by simp))))) (by omega) (by omega) _ _ _ _

/-- what the reference's DivMod answers, of any two -/
def RDPost (w : World) (za zb : Int) (e : Ending) (w' : World) : Prop :=
  ∃ sq aq lq sr ar lr, e = .returned (.tuple #[.agg #[.bool sq, .slice aq lq.length lq.length], .agg #[.bool sr, .slice ar lr.length lr.length], .int .i64 (derr zb)]) ∧
    OW w' w.heap.size aq lq.length lq.length lq ∧ OW w' w.heap.size ar lr.length lr.length lr ∧ DD za zb (iv sq lq) (iv sr lr) ∧ w.grownBy w' none
theorem rdivmod_any (s t : Bool) (a b : Option Addr) (n c m d : Nat) (x y : List Nat) (w : World) (hx : SL w a n c x) (hy : SL w b m d y) (h1 : n ≤ 35184372087808) (h2 : m ≤ 35184372087808) :
    Calls Try.prog 34 #[.agg #[.bool s, .slice a n c], .agg #[.bool t, .slice b m d]] w (RDPost w (iv s x) (iv t y)) := by
  by_cases h0 : tr y = []
  · have hz : iv t y = 0 := iv_zero.2 h0
    refine (rdivmod_zero s t a b n c m d x y w hx hy h0).mono ?_
    rintro e w' ⟨rfl, hg⟩
    refine ⟨false, none, [], false, none, [], by rw [hz]; rfl, OW.nil' _ _, OW.nil' _ _, ?_, hg⟩
    unfold DD
    rw [if_pos hz]
    exact ⟨rfl, rfl⟩
  · have hz : ¬ iv t y = 0 := fun e => h0 (iv_zero.1 e)
    refine (rdivmod_nz s t a b n c m d x y w hx hy h0 h1 h2).mono ?_
    rintro e w' ⟨sq, aq, lq, sr, ar, lr, rfl, h2, h3, h9, h12⟩
    refine ⟨sq, aq, lq, sr, ar, lr, ?_, h2, h3, ?_, h12⟩
    · unfold derr; rw [if_neg hz]
    · unfold DD; rw [if_neg hz]; exact h9

set_option maxHeartbeats 12800000 in
set_option maxRecDepth 100000 in
theorem divides_walk (s1 s2 : Bool) (a1 a2 : Option Addr) (n1 c1 n2 c2 : Nat) (x1 x2 : List Nat) (w : World) (SA : SL w a1 n1 c1 x1) (SB : SL w a2 n2 c2 x2) (h1 : n1 ≤ 35184372087808) (h2 : n2 ≤ 35184372087808) :
    Calls Try.prog 5 #[.agg #[.bool s1, .slice a1 n1 c1], .agg #[.bool s2, .slice a2 n2 c2]] w fun e w' => e = .returned (.bool true) ∧ w.grownBy w' none := by
  obtain ⟨er, her⟩ : ∃ er, derr (iv s2 x2) = er := ⟨_, rfl⟩
  have HB : Hid (∀ w', SL w' a1 n1 c1 x1 → SL w' a2 n2 c2 x2 → Calls Try.prog 33 #[.agg #[.bool s1, .slice a1 n1 c1], .agg #[.bool s2, .slice a2 n2 c2]] w' fun e w'' => ∃ sq aq lq sr ar lr, e = .returned (.tuple #[.agg #[.bool sq, .slice aq lq.length lq.length], .agg #[.bool sr, .slice ar lr.length lr.length], .int .i64 er]) ∧ SL w'' aq lq.length lq.length lq ∧ SL w'' ar lr.length lr.length lr ∧ Std sq lq = true ∧ Std sr lr = true ∧ DD (iv s1 x1) (iv s2 x2) (iv sq lq) (iv sr lr) ∧ w'.grownBy w'' none) := fun w' hx hy => by
    refine (divmod_wide s1 s2 a1 a2 n1 c1 n2 c2 x1 x2 w' hx hy (by omega) (by omega)).mono ?_
    rintro e w'' ⟨sq, aq, lq, sr, ar, lr, rfl, h2, h3, h4, h5, h6, h7, h8, h9, h10, h11, h12⟩
    exact ⟨sq, aq, lq, sr, ar, lr, by rw [her], h2.sl, h3.sl, std_of h5 h7, std_of h6 h8, h9, h12⟩
  have HR : Hid (∀ w', SL w' a1 n1 c1 x1 → SL w' a2 n2 c2 x2 → Calls Try.prog 34 #[.agg #[.bool s1, .slice a1 n1 c1], .agg #[.bool s2, .slice a2 n2 c2]] w' fun e w'' => ∃ sq aq lq sr ar lr, e = .returned (.tuple #[.agg #[.bool sq, .slice aq lq.length lq.length], .agg #[.bool sr, .slice ar lr.length lr.length], .int .i64 er]) ∧ SL w'' aq lq.length lq.length lq ∧ SL w'' ar lr.length lr.length lr ∧ DD (iv s1 x1) (iv s2 x2) (iv sq lq) (iv sr lr) ∧ w'.grownBy w'' none) := fun w' hx hy => by
    refine (rdivmod_any s1 s2 a1 a2 n1 c1 n2 c2 x1 x2 w' hx hy (by omega) (by omega)).mono ?_
    rintro e w'' ⟨sq, aq, lq, sr, ar, lr, rfl, h2, h3, h9, h12⟩
    exact ⟨sq, aq, lq, sr, ar, lr, by rw [her], h2.sl, h3.sl, h9, h12⟩
  clear her
  go_enter Try.func5, Try.ntmps5
  go_wp2_with fail
  refine (awake_raw _).mono ?_
  rintro e w1 ⟨rfl, hg1⟩
  obtain ⟨kA1, mA1, jA1⟩ := box_kept w.heap.size hg1 (by first | (simp; done) | (simp; omega) | omega)
  obtain ⟨kB1, mB1, jB1⟩ := box_kept (w.heap.size + 1) hg1 (by first | (simp; done) | (simp; omega) | omega)
  go_wp2_with fail
  refine (HB.out _ (by exact SA.grown (by repeat (first | exact gb_refl _ _ | apply gb_drew | apply gb_alloc | (refine gb_then ?_ (by assumption) (by simp))))) (by exact SB.grown (by repeat (first | exact gb_refl _ _ | apply gb_drew | apply gb_alloc | (refine gb_then ?_ (by assumption) (by simp)))))).mono ?_
  rintro e w2 ⟨sq, aq, lq, sr, ar, lr, rfl, hq2, hr2, vq, vr, hd2, hg2⟩
  obtain ⟨kA2, mA2, jA2⟩ := box_kept w.heap.size hg2 (by first | (simp; done) | (simp; omega) | omega)
  obtain ⟨kB2, mB2, jB2⟩ := box_kept (w.heap.size + 1) hg2 (by first | (simp; done) | (simp; omega) | omega)
  have HD2 := hid hd2
  have HVQ := hid vq
  have HVR := hid vr
  clear hd2 vq vr
  go_wp2_with fail
  refine (HR.out _ (by exact SA.grown (by repeat (first | exact gb_refl _ _ | apply gb_drew | apply gb_alloc | (refine gb_then ?_ (by assumption) (by simp))))) (by exact SB.grown (by repeat (first | exact gb_refl _ _ | apply gb_drew | apply gb_alloc | (refine gb_then ?_ (by assumption) (by simp)))))).mono ?_
  rintro e w3 ⟨sx, ax, lx, sy, ay, ly, rfl, hx3, hy3, hd3, hg3⟩
  have HD3 := hid hd3
  clear hd3
  obtain ⟨kQ3, mQ3, jQ3⟩ := box_kept w2.heap.size hg3 (by first | (simp; done) | (simp; omega) | omega)
  obtain ⟨kR3, mR3, jR3⟩ := box_kept (w2.heap.size + 1) hg3 (by first | (simp; done) | (simp; omega) | omega)
  go_wp2_with fail
  refine (is_true sq sx aq ax _ _ _ _ lq lx _ (by exact hq2.grown (by repeat (first | exact gb_refl _ _ | apply gb_drew | apply gb_alloc | (refine gb_then ?_ (by assumption) (by simp))))) (by exact hx3.grown (by repeat (first | exact gb_refl _ _ | apply gb_drew | apply gb_alloc | (refine gb_then ?_ (by assumption) (by simp))))) HVQ.out (dd_unique HD2.out HD3.out).1).mono ?_
  rintro e w4 ⟨rfl, hg4⟩
  obtain ⟨kQ4, mQ4, jQ4⟩ := box_kept w2.heap.size hg4 (by first | (simp; done) | (simp; omega) | omega)
  obtain ⟨kR4, mR4, jR4⟩ := box_kept (w2.heap.size + 1) hg4 (by first | (simp; done) | (simp; omega) | omega)
  obtain ⟨kX4, mX4, jX4⟩ := box_kept w3.heap.size hg4 (by first | (simp; done) | (simp; omega) | omega)
  obtain ⟨kY4, mY4, jY4⟩ := box_kept (w3.heap.size + 1) hg4 (by first | (simp; done) | (simp; omega) | omega)
  go_wp2_with fail
  refine (is_true sr sy ar ay _ _ _ _ lr ly _ (by exact hr2.grown (by repeat (first | exact gb_refl _ _ | apply gb_drew | apply gb_alloc | (refine gb_then ?_ (by assumption) (by simp))))) (by exact hy3.grown (by repeat (first | exact gb_refl _ _ | apply gb_drew | apply gb_alloc | (refine gb_then ?_ (by assumption) (by simp))))) HVR.out (dd_unique HD2.out HD3.out).2).mono ?_
  rintro e w5 ⟨rfl, hg5⟩
  go_wp2
  go_ret
  exact ⟨by first | rfl | simp, (by repeat (first | exact gb_refl _ _ | apply gb_drew | apply gb_alloc | (refine gb_then ?_ (by assumption) (by simp))))⟩
end Go.Proofs.Ytonfnkchpicoiaa
