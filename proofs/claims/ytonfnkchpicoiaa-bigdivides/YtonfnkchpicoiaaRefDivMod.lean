/-
  The reference's DivMod.
-/
import Derived.Test.YtonfnkchpicoiaaRefDiv
import Derived.Test.YtonfnkchpicoiaaQuotMath
import Derived.Test.YtonfnkchpicoiaaRefOf
namespace Go.Proofs.Ytonfnkchpicoiaa
set_option linter.unusedSimpArgs false
set_option linter.unusedVariables false
open Go.RowKit
attribute [local go_sem ↓] Go.wp_at_zero Go.wp_at_succ

/-- what the reference's DivMod answers -/
def RDM (w : World) (za zb : Int) (e : Ending) (w' : World) : Prop :=
  ∃ sq aq lq sr ar lr, e = .returned (.tuple #[.agg #[.bool sq, .slice aq lq.length lq.length], .agg #[.bool sr, .slice ar lr.length lr.length], .int .i64 0]) ∧
    OW w' w.heap.size aq lq.length lq.length lq ∧ OW w' w.heap.size ar lr.length lr.length lr ∧ DM za zb (iv sq lq) (iv sr lr) ∧ w.grownBy w' none

theorem dm_of {za zb q r r' : Int} (h : DM za zb q r') (hr : r = za - q * zb) : DM za zb q r := by
  obtain ⟨h1, h2⟩ := h
  have : r = r' := by rw [hr, h1]; omega
  rw [this]
  exact ⟨h1, h2⟩
theorem rdivmod_end {w w6 : World} {h2 h3 : Nat} {za zb : Int} {s4 s5 : Bool} {a4 a5 : Option Addr} {l4 l5 : List Nat} {v0 v1 u0 u1 : Value} {B4 B5 : Nat} (hg : w.grownBy w6 none)
    (o4 : OW w6 B4 a4 l4.length l4.length l4) (o5 : OW w6 B5 a5 l5.length l5.length l5) (hdm : DM za zb (iv s4 l4) (iv s5 l5)) (hB : w.heap.size ≤ h2) (hB' : w.heap.size ≤ h3) (h2B : h2 < B4) (h3B : h3 < B4) (h2C : h2 < B5) (h3C : h3 < B5) :
    RDM w za zb (.returned (.tuple #[.agg #[.bool s4, .slice a4 l4.length l4.length], .agg #[.bool s5, .slice a5 l5.length l5.length], .int .i64 0])) ((((w6.setCell ⟨h2, 0, none⟩ v0).setCell ⟨h2, 1, none⟩ v1).setCell ⟨h3, 0, none⟩ u0).setCell ⟨h3, 1, none⟩ u1) := by
  have hp := puts_grown w6 h2 h3 v0 v1 u0 u1
  exact ⟨s4, a4, l4, s5, a5, l5, rfl, (o4.past hp (by simp) h2B h3B).mono (by omega), (o5.past hp (by simp) h2C h3C).mono (by omega), hdm, puts_new hg hB hB' v0 v1 u0 u1⟩

set_option maxHeartbeats 12800000 in
set_option maxRecDepth 100000 in
theorem rdivmod_nz (s t : Bool) (a b : Option Addr) (n c m d : Nat) (x y : List Nat) (w : World) (hx : SL w a n c x) (hy : SL w b m d y) (h0 : tr y ≠ []) (h1 : n ≤ 35184372087808) (h2 : m ≤ 35184372087808) :
    Calls Try.prog 34 #[.agg #[.bool s, .slice a n c], .agg #[.bool t, .slice b m d]] w (RDM w (iv s x) (iv t y)) := by
  have hne1 : ¬ (w.heap.size + 1 + 1 = w.heap.size) := by omega
  have hne2 : ¬ (w.heap.size + 1 + 1 = w.heap.size + 1) := by omega
  have hne3 : ¬ (w.heap.size + 1 + 1 + 1 = w.heap.size) := by omega
  have hne4 : ¬ (w.heap.size + 1 + 1 + 1 = w.heap.size + 1) := by omega
  have hne6 : ¬ (w.heap.size + 1 + 1 = w.heap.size + 1 + 1 + 1) := by omega
  have hne5 : ¬ (w.heap.size + 1 + 1 + 1 = w.heap.size + 1 + 1) := by omega
  have hvy0 : val y ≠ 0 := fun e => h0 (val_zero_nrm (nrm_tr y) (by rw [val_tr]; exact e))
  have hsg0 : (sgn (iv t y) == 0) = false := by
    rw [sgn_zero]
    simp only [decide_eq_false_iff_not]
    unfold iv
    split <;> omega
  have HVY := hid hvy0
  clear hvy0
  go_enter Try.func34, Try.ntmps34
  go_wp2_with fail
  refine (rsign_raw t b m d y _ (by exact hy.grown (by repeat (first | exact gb_refl _ _ | apply gb_drew | apply gb_alloc | (refine gb_then ?_ (by assumption) (by simp)))))).mono ?_
  rintro e w1 ⟨rfl, hg1⟩
  obtain ⟨kA1, mA1, jA1⟩ := box_kept w.heap.size hg1 (by first | (simp; done) | (simp; omega) | omega)
  obtain ⟨kB1, mB1, jB1⟩ := box_kept (w.heap.size + 1) hg1 (by first | (simp; done) | (simp; omega) | omega)
  obtain ⟨kC1, mC1, jC1⟩ := box_kept (w.heap.size + 1 + 1) hg1 (by first | (simp; done) | (simp; omega) | omega)
  obtain ⟨kD1, mD1, jD1⟩ := box_kept (w.heap.size + 1 + 1 + 1) hg1 (by first | (simp; done) | (simp; omega) | omega)
  go_wp2_with fail
  refine (rnorm_raw s a n c x _ (by exact hx.grown (by repeat (first | exact gb_refl _ _ | apply gb_drew | apply gb_alloc | (refine gb_then ?_ (by assumption) (by simp)))))).mono ?_
  rintro e wX ⟨sX, aX, lX, rfl, hoX, hnX, hsX, hiX, hkX, hgX⟩
  have HIX := hid hiX
  clear hiX
  obtain ⟨kAX, mAX, jAX⟩ := box_kept w.heap.size hgX (by first | (simp; done) | (simp; omega) | omega)
  obtain ⟨kBX, mBX, jBX⟩ := box_kept (w.heap.size + 1) hgX (by first | (simp; done) | (simp; omega) | omega)
  obtain ⟨kCX, mCX, jCX⟩ := box_kept (w.heap.size + 1 + 1) hgX (by first | (simp; done) | (simp; omega) | omega)
  obtain ⟨kDX, mDX, jDX⟩ := box_kept (w.heap.size + 1 + 1 + 1) hgX (by first | (simp; done) | (simp; omega) | omega)
  go_wp2_with fail
  refine (rnorm_raw t b m d y _ (by exact hy.grown (by repeat (first | exact gb_refl _ _ | apply gb_drew | apply gb_alloc | (refine gb_then ?_ (by assumption) (by simp)))))).mono ?_
  rintro e wY ⟨sY, aY, lY, rfl, hoY, hnY, hsY, hiY, hkY, hgY⟩
  have HIY := hid hiY
  clear hiY
  obtain ⟨kAY, mAY, jAY⟩ := box_kept w.heap.size hgY (by first | (simp; done) | (simp; omega) | omega)
  obtain ⟨kBY, mBY, jBY⟩ := box_kept (w.heap.size + 1) hgY (by first | (simp; done) | (simp; omega) | omega)
  obtain ⟨kCY, mCY, jCY⟩ := box_kept (w.heap.size + 1 + 1) hgY (by first | (simp; done) | (simp; omega) | omega)
  obtain ⟨kDY, mDY, jDY⟩ := box_kept (w.heap.size + 1 + 1 + 1) hgY (by first | (simp; done) | (simp; omega) | omega)
  obtain ⟨kXY, mXY, jXY⟩ := box_kept wX.heap.size hgY (by first | (simp; done) | (simp; omega) | omega)
  have hvY : 0 < val lY := by
    have h3 := HIY.out
    have h4 := HVY.out
    unfold iv at h3
    split at h3 <;> split at h3 <;> omega
  go_wp2_with fail
  refine (natDiv_raw aX aY _ _ _ _ lX lY _ (by exact hoX.sl.grown (by repeat (first | exact gb_refl _ _ | apply gb_drew | apply gb_alloc | (refine gb_then ?_ (by assumption) (by simp))))) (by exact hoY.sl.grown (by repeat (first | exact gb_refl _ _ | apply gb_drew | apply gb_alloc | (refine gb_then ?_ (by assumption) (by simp))))) hvY (by omega) (by omega)).mono ?_
  rintro e wD ⟨gq, M, gr, N, rfl, hrq, hrr, nM, nN, lM, lN, hvD, hltD, kM, kN, hBq, hBr, hgD⟩
  have HVD := hid hvD
  clear hvD
  obtain ⟨kAD, mAD, jAD⟩ := box_kept w.heap.size hgD (by first | (simp; done) | (simp; omega) | omega)
  obtain ⟨kBD, mBD, jBD⟩ := box_kept (w.heap.size + 1) hgD (by first | (simp; done) | (simp; omega) | omega)
  obtain ⟨kCD, mCD, jCD⟩ := box_kept (w.heap.size + 1 + 1) hgD (by first | (simp; done) | (simp; omega) | omega)
  obtain ⟨kDD, mDD, jDD⟩ := box_kept (w.heap.size + 1 + 1 + 1) hgD (by first | (simp; done) | (simp; omega) | omega)
  obtain ⟨kXD, mXD, jXD⟩ := box_kept wX.heap.size hgD (by first | (simp; done) | (simp; omega) | omega)
  obtain ⟨kYD, mYD, jYD⟩ := box_kept wY.heap.size hgD (by first | (simp; done) | (simp; omega) | omega)
  have hsM := (OW.of_row (B := 0) (L := []) (by simpa using hrq) (Nat.zero_le _) rfl (Nat.le_refl _) (by omega) (by omega) lM).sl
  have hsN := (OW.of_row (B := 0) (L := []) (by simpa using hrr) (Nat.zero_le _) rfl (Nat.le_refl _) (by omega) (by omega) lN).sl
  go_wp2_with fail
  refine (rnorm_raw (!(sX == sY)) _ _ _ M _ hsM).mono ?_
  rintro e wQ ⟨sQ, aQ, lQ, rfl, hoQ, hnQ, hsQ, hiQ, hkQ, hgQ⟩
  have HIQ := hid hiQ
  clear hiQ
  obtain ⟨kAQ, mAQ, jAQ⟩ := box_kept w.heap.size hgQ (by first | (simp; done) | (simp; omega) | omega)
  obtain ⟨kBQ, mBQ, jBQ⟩ := box_kept (w.heap.size + 1) hgQ (by first | (simp; done) | (simp; omega) | omega)
  obtain ⟨kCQ, mCQ, jCQ⟩ := box_kept (w.heap.size + 1 + 1) hgQ (by first | (simp; done) | (simp; omega) | omega)
  obtain ⟨kDQ, mDQ, jDQ⟩ := box_kept (w.heap.size + 1 + 1 + 1) hgQ (by first | (simp; done) | (simp; omega) | omega)
  obtain ⟨kXQ, mXQ, jXQ⟩ := box_kept wX.heap.size hgQ (by first | (simp; done) | (simp; omega) | omega)
  obtain ⟨kYQ, mYQ, jYQ⟩ := box_kept wY.heap.size hgQ (by first | (simp; done) | (simp; omega) | omega)
  have hlX : wX.heap.size < wY.heap.size := by have := hgY.size; simp at this; omega
  have hlY : wY.heap.size < wQ.heap.size := by have := hgD.size; have := hgQ.size; simp at *; omega
  have hlW : w.heap.size + 1 + 1 + 1 < wX.heap.size := by have := hg1.size; have := hgX.size; simp at *; omega
  have hnCX : ¬ (w.heap.size + 1 + 1 = wX.heap.size) := by omega
  have hnCY : ¬ (w.heap.size + 1 + 1 = wY.heap.size) := by omega
  have hnCQ : ¬ (w.heap.size + 1 + 1 = wQ.heap.size) := by omega
  have hnDX : ¬ (w.heap.size + 1 + 1 + 1 = wX.heap.size) := by omega
  have hnDY : ¬ (w.heap.size + 1 + 1 + 1 = wY.heap.size) := by omega
  have hnDQ : ¬ (w.heap.size + 1 + 1 + 1 = wQ.heap.size) := by omega
  have hOffX : Off aX lX.length wQ.heap.size := Off.of_lt hoX.sl (by omega)
  have hOffY : Off aY lY.length wQ.heap.size := Off.of_lt hoY.sl (by omega)
  by_cases hst : sX = sY
  · subst hst
    have hss : (sX == sX) = true := by simp
    rw [hss] at HIQ
    go_wp2
    have XC : Bx (wQ.alloc (.cells #[.bool sQ, .slice aQ lQ.length lQ.length] 24)) (w.heap.size + 1 + 1) (.bool false) (.slice none 0 0) := (Bx.new ((w.alloc (.cells #[.bool s, .slice a n c] 24)).alloc (.cells #[.bool t, .slice b m d] 24)) _ _ _ 24 (by simp)).kept (by repeat (first | exact gb_refl _ _ | apply gb_drew | apply gb_alloc | (refine gb_then ?_ (by assumption) (by simp)))) (by simp)
    have XD : Bx (wQ.alloc (.cells #[.bool sQ, .slice aQ lQ.length lQ.length] 24)) (w.heap.size + 1 + 1 + 1) (.bool false) (.slice none 0 0) := (Bx.new (((w.alloc (.cells #[.bool s, .slice a n c] 24)).alloc (.cells #[.bool t, .slice b m d] 24)).alloc (.cells #[.bool false, .slice none 0 0] 24)) _ _ _ 24 (by simp)).kept (by repeat (first | exact gb_refl _ _ | apply gb_drew | apply gb_alloc | (refine gb_then ?_ (by assumption) (by simp)))) (by simp)
    have XX : Bx (wQ.alloc (.cells #[.bool sQ, .slice aQ lQ.length lQ.length] 24)) wX.heap.size (.bool sX) (.slice aX lX.length lX.length) := (Bx.new wX _ _ _ 24 rfl).kept (by repeat (first | exact gb_refl _ _ | apply gb_drew | apply gb_alloc | (refine gb_then ?_ (by assumption) (by simp)))) (by simp)
    have XY : Bx (wQ.alloc (.cells #[.bool sQ, .slice aQ lQ.length lQ.length] 24)) wY.heap.size (.bool sX) (.slice aY lY.length lY.length) := (Bx.new wY _ _ _ 24 rfl).kept (by repeat (first | exact gb_refl _ _ | apply gb_drew | apply gb_alloc | (refine gb_then ?_ (by assumption) (by simp)))) (by simp)
    have XQ : Bx (wQ.alloc (.cells #[.bool sQ, .slice aQ lQ.length lQ.length] 24)) wQ.heap.size (.bool sQ) (.slice aQ lQ.length lQ.length) := Bx.new wQ _ _ _ 24 rfl
    have SX : SL (wQ.alloc (.cells #[.bool sQ, .slice aQ lQ.length lQ.length] 24)) aX lX.length lX.length lX := hoX.sl.grown (by repeat (first | exact gb_refl _ _ | apply gb_drew | apply gb_alloc | (refine gb_then ?_ (by assumption) (by simp))))
    have SY : SL (wQ.alloc (.cells #[.bool sQ, .slice aQ lQ.length lQ.length] 24)) aY lY.length lY.length lY := hoY.sl.grown (by repeat (first | exact gb_refl _ _ | apply gb_drew | apply gb_alloc | (refine gb_then ?_ (by assumption) (by simp))))
    have OQ : OW (wQ.alloc (.cells #[.bool sQ, .slice aQ lQ.length lQ.length] 24)) (w.heap.size + 1 + 1 + 1 + 1) aQ lQ.length lQ.length lQ := (hoQ.grown (by repeat (first | exact gb_refl _ _ | apply gb_drew | apply gb_alloc | (refine gb_then ?_ (by assumption) (by simp))))).mono (by first | (simp; done) | (simp; omega) | omega)
    have G : w.grownBy (wQ.alloc (.cells #[.bool sQ, .slice aQ lQ.length lQ.length] 24)) none := (by repeat (first | exact gb_refl _ _ | apply gb_drew | apply gb_alloc | (refine gb_then ?_ (by assumption) (by simp))))
    clear hg1 kA1 mA1 jA1 kB1 mB1 jB1 kC1 mC1 jC1 kD1 mD1 jD1 hgX kAX mAX jAX kBX mBX jBX kCX mCX jCX kDX mDX jDX hgY kAY mAY jAY kBY mBY jBY kCY mCY jCY kDY mDY jDY kXY mXY jXY hgD kAD mAD jAD kBD mBD jBD kCD mCD jCD kDD mDD jDD kXD mXD jXD kYD mYD jYD hgQ kAQ mAQ jAQ kBQ mBQ jBQ kCQ mCQ jCQ kDQ mDQ jDQ kXQ mXQ jXQ kYQ mYQ jYQ hoX hoY hoQ hsM hsN
    generalize wQ.alloc (.cells #[.bool sQ, .slice aQ lQ.length lQ.length] 24) = wF at *
    have qC0 := XC.c0
    have qC1 := XC.c1
    have qC2 := XC.f0
    have qC3 := XC.f1
    have qC4 := XC.lt
    have qD0 := XD.c0
    have qD1 := XD.c1
    have qD2 := XD.f0
    have qD3 := XD.f1
    have qD4 := XD.lt
    have qX0 := XX.c0
    have qX1 := XX.c1
    have qX2 := XX.f0
    have qX3 := XX.f1
    have qX4 := XX.lt
    have qY0 := XY.c0
    have qY1 := XY.c1
    have qY2 := XY.f0
    have qY3 := XY.f1
    have qY4 := XY.lt
    have qQ0 := XQ.c0
    have qQ1 := XQ.c1
    have qQ2 := XQ.f0
    have qQ3 := XQ.f1
    have qQ4 := XQ.lt
    have OE := OQ
    have hdmE : DM (iv sX lX) (iv sX lY) (iv sQ lQ) (iv sX N) := by
      rw [HIQ.out]; exact dm_same sX (R := N) (by rw [val_tr, val_tr]; exact HVD.out) (by rw [val_tr]; exact hltD)
    have HDE := hid hdmE
    have HPB : Hid (val lQ * val lY < B32 ^ (max lX.length lY.length + 1)) := by
      have h5 := dm_p hdmE
      rw [Int.natAbs_mul, abs_iv, abs_iv, abs_iv] at h5
      exact Nat.lt_of_le_of_lt h5 (two_pow (Nat.lt_of_lt_of_le (val_lt lX SX.lim) (pow_mono (by omega))) (Nat.lt_of_lt_of_le (val_lt lY SY.lim) (pow_mono (by omega))))
    clear hdmE
    go_region_held3 (fun w' => w'.cell? ⟨wX.heap.size, 0, none⟩ = some (.bool sX) ∧ w'.cell? ⟨wX.heap.size, 1, none⟩ = some (.slice aX lX.length lX.length) ∧ w'.cell? ⟨wY.heap.size, 0, none⟩ = some (.bool sX) ∧ w'.cell? ⟨wY.heap.size, 1, none⟩ = some (.slice aY lY.length lY.length) ∧ w'.cell? ⟨wQ.heap.size, 0, none⟩ = some (.bool sQ) ∧ w'.cell? ⟨wQ.heap.size, 1, none⟩ = some (.slice aQ lQ.length lQ.length)) (go_keep) (first
      | (go_at_call 32; refine (rmul_wide sQ sX aQ aY _ _ _ _ lQ lY _ (by exact OE.sl.grown (by repeat (first | exact gb_refl _ _ | apply gb_drew | apply gb_alloc | (refine gb_then ?_ (by assumption) (by simp))))) (by exact SY.grown (by repeat (first | exact gb_refl _ _ | apply gb_drew | apply gb_alloc | (refine gb_then ?_ (by assumption) (by simp))))) (max lX.length lY.length + 1) (by omega) (by omega) (by omega) HPB.out).mono ?_; rintro e wm ⟨sm, am, lm, rfl, hom, hnm, hsm, him, hkm, hgm⟩; have HIm := hid him; clear him; obtain ⟨kCm, mCm, jCm⟩ := box_kept (w.heap.size + 1 + 1) hgm (by first | (simp; done) | (simp; omega) | omega); obtain ⟨kDm, mDm, jDm⟩ := box_kept (w.heap.size + 1 + 1 + 1) hgm (by first | (simp; done) | (simp; omega) | omega); obtain ⟨kXm, mXm, jXm⟩ := box_kept wX.heap.size hgm (by first | (simp; done) | (simp; omega) | omega); obtain ⟨kYm, mYm, jYm⟩ := box_kept wY.heap.size hgm (by first | (simp; done) | (simp; omega) | omega); obtain ⟨kQm, mQm, jQm⟩ := box_kept wQ.heap.size hgm (by first | (simp; done) | (simp; omega) | omega))
      | (go_at_call 31; refine (rsub_raw sX sm aX am _ _ _ _ lX lm _ (by exact SX.grown (by repeat (first | exact gb_refl _ _ | apply gb_drew | apply gb_alloc | (refine gb_then ?_ (by assumption) (by simp))))) (by exact hom.sl.grown (by repeat (first | exact gb_refl _ _ | apply gb_drew | apply gb_alloc | (refine gb_then ?_ (by assumption) (by simp))))) (by omega) (by omega)).mono ?_; rintro e wr ⟨sr, ar, lr, rfl, hor, hnr, hsr, hir, hkr, hgr⟩; have HIr := hid hir; clear hir; obtain ⟨kCr, mCr, jCr⟩ := box_kept (w.heap.size + 1 + 1) hgr (by first | (simp; done) | (simp; omega) | omega); obtain ⟨kDr, mDr, jDr⟩ := box_kept (w.heap.size + 1 + 1 + 1) hgr (by first | (simp; done) | (simp; omega) | omega); obtain ⟨kXr, mXr, jXr⟩ := box_kept wX.heap.size hgr (by first | (simp; done) | (simp; omega) | omega); obtain ⟨kYr, mYr, jYr⟩ := box_kept wY.heap.size hgr (by first | (simp; done) | (simp; omega) | omega); obtain ⟨kQr, mQr, jQr⟩ := box_kept wQ.heap.size hgr (by first | (simp; done) | (simp; omega) | omega)))
    all_goals go_wp2
    all_goals
      have E2 : Bx wr (w.heap.size + 1 + 1) _ _ := XC.kept (by repeat (first | exact gb_refl _ _ | apply gb_drew | apply gb_alloc | (refine gb_then ?_ (by assumption) (by simp)))) (by simp)
      have E3 : Bx wr (w.heap.size + 1 + 1 + 1) _ _ := XD.kept (by repeat (first | exact gb_refl _ _ | apply gb_drew | apply gb_alloc | (refine gb_then ?_ (by assumption) (by simp)))) (by simp)
      have D2 := (E2.put (.bool sQ) (.slice aQ lQ.length lQ.length)).other hne6 (.bool sr) (.slice ar lr.length lr.length)
      have D3 := (E3.other hne5 (.bool sQ) (.slice aQ lQ.length lQ.length)).put (.bool sr) (.slice ar lr.length lr.length)
      refine bodyPost_ret (v := .tuple #[.agg #[.bool sQ, .slice aQ lQ.length lQ.length], .agg #[.bool sr, .slice ar lr.length lr.length], .int .i64 0]) (by simp [results, Try.results34, go_sem, D2.c0, D2.c1, D3.c0, D3.c1]) rfl ?_
      refine rdivmod_end (by repeat (first | exact gb_refl _ _ | apply gb_drew | apply gb_alloc | (refine gb_then ?_ (by assumption) (by simp)))) (OE.grown (by repeat (first | exact gb_refl _ _ | apply gb_drew | apply gb_alloc | (refine gb_then ?_ (by assumption) (by simp))))) hor ?_ (by omega) (by omega) (by omega) (by omega) (by first | (simp; done) | (simp; omega) | omega) (by first | (simp; done) | (simp; omega) | omega)
      refine dm_of (r' := iv sX N) ?_ (by rw [HIr.out, HIm.out, HIX.out, HIY.out])
      rw [← HIX.out, ← HIY.out]; exact HDE.out
  · have hss : (sX == sY) = false := by simpa using hst
    rw [hss] at HIQ
    by_cases hN : val N = 0
    · have htn : ¬ (0 : Int) < ((tr N).length : Int) := by rw [val_zero_nrm nN hN]; simp [tr]
      have HN := hid hN
      clear hN
      go_wp2_with (go_at_call 47; refine (rtrim_raw _ _ _ N _ (by exact hsN.grown (by repeat (first | exact gb_refl _ _ | apply gb_drew | apply gb_alloc | (refine gb_then ?_ (by assumption) (by simp)))))).mono ?_; rintro e wt ⟨gt, rfl, hrt, hBt, hgt⟩; obtain ⟨kCt, mCt, jCt⟩ := box_kept (w.heap.size + 1 + 1) hgt (by first | (simp; done) | (simp; omega) | omega); obtain ⟨kDt, mDt, jDt⟩ := box_kept (w.heap.size + 1 + 1 + 1) hgt (by first | (simp; done) | (simp; omega) | omega); obtain ⟨kXt, mXt, jXt⟩ := box_kept wX.heap.size hgt (by first | (simp; done) | (simp; omega) | omega); obtain ⟨kYt, mYt, jYt⟩ := box_kept wY.heap.size hgt (by first | (simp; done) | (simp; omega) | omega); obtain ⟨kQt, mQt, jQt⟩ := box_kept wQ.heap.size hgt (by first | (simp; done) | (simp; omega) | omega))
      have XC : Bx wt (w.heap.size + 1 + 1) (.bool false) (.slice none 0 0) := (Bx.new ((w.alloc (.cells #[.bool s, .slice a n c] 24)).alloc (.cells #[.bool t, .slice b m d] 24)) _ _ _ 24 (by simp)).kept (by repeat (first | exact gb_refl _ _ | apply gb_drew | apply gb_alloc | (refine gb_then ?_ (by assumption) (by simp)))) (by simp)
      have XD : Bx wt (w.heap.size + 1 + 1 + 1) (.bool false) (.slice none 0 0) := (Bx.new (((w.alloc (.cells #[.bool s, .slice a n c] 24)).alloc (.cells #[.bool t, .slice b m d] 24)).alloc (.cells #[.bool false, .slice none 0 0] 24)) _ _ _ 24 (by simp)).kept (by repeat (first | exact gb_refl _ _ | apply gb_drew | apply gb_alloc | (refine gb_then ?_ (by assumption) (by simp)))) (by simp)
      have XX : Bx wt wX.heap.size (.bool sX) (.slice aX lX.length lX.length) := (Bx.new wX _ _ _ 24 rfl).kept (by repeat (first | exact gb_refl _ _ | apply gb_drew | apply gb_alloc | (refine gb_then ?_ (by assumption) (by simp)))) (by simp)
      have XY : Bx wt wY.heap.size (.bool sY) (.slice aY lY.length lY.length) := (Bx.new wY _ _ _ 24 rfl).kept (by repeat (first | exact gb_refl _ _ | apply gb_drew | apply gb_alloc | (refine gb_then ?_ (by assumption) (by simp)))) (by simp)
      have XQ : Bx wt wQ.heap.size (.bool sQ) (.slice aQ lQ.length lQ.length) := (Bx.new wQ _ _ _ 24 rfl).kept (by repeat (first | exact gb_refl _ _ | apply gb_drew | apply gb_alloc | (refine gb_then ?_ (by assumption) (by simp)))) (by simp)
      have SX : SL wt aX lX.length lX.length lX := hoX.sl.grown (by repeat (first | exact gb_refl _ _ | apply gb_drew | apply gb_alloc | (refine gb_then ?_ (by assumption) (by simp))))
      have SY : SL wt aY lY.length lY.length lY := hoY.sl.grown (by repeat (first | exact gb_refl _ _ | apply gb_drew | apply gb_alloc | (refine gb_then ?_ (by assumption) (by simp))))
      have OQ : OW wt (w.heap.size + 1 + 1 + 1 + 1) aQ lQ.length lQ.length lQ := (hoQ.grown (by repeat (first | exact gb_refl _ _ | apply gb_drew | apply gb_alloc | (refine gb_then ?_ (by assumption) (by simp))))).mono (by first | (simp; done) | (simp; omega) | omega)
      have G : w.grownBy wt none := (by repeat (first | exact gb_refl _ _ | apply gb_drew | apply gb_alloc | (refine gb_then ?_ (by assumption) (by simp))))
      clear hg1 kA1 mA1 jA1 kB1 mB1 jB1 kC1 mC1 jC1 kD1 mD1 jD1 hgX kAX mAX jAX kBX mBX jBX kCX mCX jCX kDX mDX jDX hgY kAY mAY jAY kBY mBY jBY kCY mCY jCY kDY mDY jDY kXY mXY jXY hgD kAD mAD jAD kBD mBD jBD kCD mCD jCD kDD mDD jDD kXD mXD jXD kYD mYD jYD hgQ kAQ mAQ jAQ kBQ mBQ jBQ kCQ mCQ jCQ kDQ mDQ jDQ kXQ mXQ jXQ kYQ mYQ jYQ kCt mCt jCt kDt mDt jDt kXt mXt jXt kYt mYt jYt kQt mQt jQt hgt hoX hoY hoQ hsM hsN
      have qC0 := XC.c0
      have qC1 := XC.c1
      have qC2 := XC.f0
      have qC3 := XC.f1
      have qC4 := XC.lt
      have qD0 := XD.c0
      have qD1 := XD.c1
      have qD2 := XD.f0
      have qD3 := XD.f1
      have qD4 := XD.lt
      have qX0 := XX.c0
      have qX1 := XX.c1
      have qX2 := XX.f0
      have qX3 := XX.f1
      have qX4 := XX.lt
      have qY0 := XY.c0
      have qY1 := XY.c1
      have qY2 := XY.f0
      have qY3 := XY.f1
      have qY4 := XY.lt
      have qQ0 := XQ.c0
      have qQ1 := XQ.c1
      have qQ2 := XQ.f0
      have qQ3 := XQ.f1
      have qQ4 := XQ.lt
      have OE := OQ
      have hdmE : DM (iv sX lX) (iv sY lY) (iv sQ lQ) (iv sX N) := by
        rw [HIQ.out]; exact dm_zero sX sY hst (R := N) (by rw [val_tr, val_tr]; exact HVD.out) (by rw [val_tr]; exact hltD) HN.out
      have HDE := hid hdmE
      have HPB : Hid (val lQ * val lY < B32 ^ (max lX.length lY.length + 1)) := by
        have h5 := dm_p hdmE
        rw [Int.natAbs_mul, abs_iv, abs_iv, abs_iv] at h5
        exact Nat.lt_of_le_of_lt h5 (two_pow (Nat.lt_of_lt_of_le (val_lt lX SX.lim) (pow_mono (by omega))) (Nat.lt_of_lt_of_le (val_lt lY SY.lim) (pow_mono (by omega))))
      clear hdmE
      go_region_held3 (fun w' => w'.cell? ⟨wX.heap.size, 0, none⟩ = some (.bool sX) ∧ w'.cell? ⟨wX.heap.size, 1, none⟩ = some (.slice aX lX.length lX.length) ∧ w'.cell? ⟨wY.heap.size, 0, none⟩ = some (.bool sY) ∧ w'.cell? ⟨wY.heap.size, 1, none⟩ = some (.slice aY lY.length lY.length) ∧ w'.cell? ⟨wQ.heap.size, 0, none⟩ = some (.bool sQ) ∧ w'.cell? ⟨wQ.heap.size, 1, none⟩ = some (.slice aQ lQ.length lQ.length)) (go_keep) (first
        | (go_at_call 32; refine (rmul_wide sQ sY aQ aY _ _ _ _ lQ lY _ (by exact OE.sl.grown (by repeat (first | exact gb_refl _ _ | apply gb_drew | apply gb_alloc | (refine gb_then ?_ (by assumption) (by simp))))) (by exact SY.grown (by repeat (first | exact gb_refl _ _ | apply gb_drew | apply gb_alloc | (refine gb_then ?_ (by assumption) (by simp))))) (max lX.length lY.length + 1) (by omega) (by omega) (by omega) HPB.out).mono ?_; rintro e wm ⟨sm, am, lm, rfl, hom, hnm, hsm, him, hkm, hgm⟩; have HIm := hid him; clear him; obtain ⟨kCm, mCm, jCm⟩ := box_kept (w.heap.size + 1 + 1) hgm (by first | (simp; done) | (simp; omega) | omega); obtain ⟨kDm, mDm, jDm⟩ := box_kept (w.heap.size + 1 + 1 + 1) hgm (by first | (simp; done) | (simp; omega) | omega); obtain ⟨kXm, mXm, jXm⟩ := box_kept wX.heap.size hgm (by first | (simp; done) | (simp; omega) | omega); obtain ⟨kYm, mYm, jYm⟩ := box_kept wY.heap.size hgm (by first | (simp; done) | (simp; omega) | omega); obtain ⟨kQm, mQm, jQm⟩ := box_kept wQ.heap.size hgm (by first | (simp; done) | (simp; omega) | omega))
        | (go_at_call 31; refine (rsub_raw sX sm aX am _ _ _ _ lX lm _ (by exact SX.grown (by repeat (first | exact gb_refl _ _ | apply gb_drew | apply gb_alloc | (refine gb_then ?_ (by assumption) (by simp))))) (by exact hom.sl.grown (by repeat (first | exact gb_refl _ _ | apply gb_drew | apply gb_alloc | (refine gb_then ?_ (by assumption) (by simp))))) (by omega) (by omega)).mono ?_; rintro e wr ⟨sr, ar, lr, rfl, hor, hnr, hsr, hir, hkr, hgr⟩; have HIr := hid hir; clear hir; obtain ⟨kCr, mCr, jCr⟩ := box_kept (w.heap.size + 1 + 1) hgr (by first | (simp; done) | (simp; omega) | omega); obtain ⟨kDr, mDr, jDr⟩ := box_kept (w.heap.size + 1 + 1 + 1) hgr (by first | (simp; done) | (simp; omega) | omega); obtain ⟨kXr, mXr, jXr⟩ := box_kept wX.heap.size hgr (by first | (simp; done) | (simp; omega) | omega); obtain ⟨kYr, mYr, jYr⟩ := box_kept wY.heap.size hgr (by first | (simp; done) | (simp; omega) | omega); obtain ⟨kQr, mQr, jQr⟩ := box_kept wQ.heap.size hgr (by first | (simp; done) | (simp; omega) | omega)))
      all_goals go_wp2
      all_goals
        have E2 : Bx wr (w.heap.size + 1 + 1) _ _ := XC.kept (by repeat (first | exact gb_refl _ _ | apply gb_drew | apply gb_alloc | (refine gb_then ?_ (by assumption) (by simp)))) (by simp)
        have E3 : Bx wr (w.heap.size + 1 + 1 + 1) _ _ := XD.kept (by repeat (first | exact gb_refl _ _ | apply gb_drew | apply gb_alloc | (refine gb_then ?_ (by assumption) (by simp)))) (by simp)
        have D2 := (E2.put (.bool sQ) (.slice aQ lQ.length lQ.length)).other hne6 (.bool sr) (.slice ar lr.length lr.length)
        have D3 := (E3.other hne5 (.bool sQ) (.slice aQ lQ.length lQ.length)).put (.bool sr) (.slice ar lr.length lr.length)
        refine bodyPost_ret (v := .tuple #[.agg #[.bool sQ, .slice aQ lQ.length lQ.length], .agg #[.bool sr, .slice ar lr.length lr.length], .int .i64 0]) (by simp [results, Try.results34, go_sem, D2.c0, D2.c1, D3.c0, D3.c1]) rfl ?_
        refine rdivmod_end (by repeat (first | exact gb_refl _ _ | apply gb_drew | apply gb_alloc | (refine gb_then ?_ (by assumption) (by simp)))) (OE.grown (by repeat (first | exact gb_refl _ _ | apply gb_drew | apply gb_alloc | (refine gb_then ?_ (by assumption) (by simp))))) hor ?_ (by omega) (by omega) (by omega) (by omega) (by first | (simp; done) | (simp; omega) | omega) (by first | (simp; done) | (simp; omega) | omega)
        refine dm_of (r' := iv sX N) ?_ (by rw [HIr.out, HIm.out, HIX.out, HIY.out])
        rw [← HIX.out, ← HIY.out]; exact HDE.out
    · have htn : (0 : Int) < ((tr N).length : Int) := by
        have : tr N ≠ [] := fun e => hN (by rw [← val_tr, e]; rfl)
        have := List.length_pos_iff.2 this
        omega
      go_wp2_with (go_at_call 47; refine (rtrim_raw _ _ _ N _ (by exact hsN.grown (by repeat (first | exact gb_refl _ _ | apply gb_drew | apply gb_alloc | (refine gb_then ?_ (by assumption) (by simp)))))).mono ?_; rintro e wt ⟨gt, rfl, hrt, hBt, hgt⟩; obtain ⟨kCt, mCt, jCt⟩ := box_kept (w.heap.size + 1 + 1) hgt (by first | (simp; done) | (simp; omega) | omega); obtain ⟨kDt, mDt, jDt⟩ := box_kept (w.heap.size + 1 + 1 + 1) hgt (by first | (simp; done) | (simp; omega) | omega); obtain ⟨kXt, mXt, jXt⟩ := box_kept wX.heap.size hgt (by first | (simp; done) | (simp; omega) | omega); obtain ⟨kYt, mYt, jYt⟩ := box_kept wY.heap.size hgt (by first | (simp; done) | (simp; omega) | omega); obtain ⟨kQt, mQt, jQt⟩ := box_kept wQ.heap.size hgt (by first | (simp; done) | (simp; omega) | omega))
      have XC : Bx wt (w.heap.size + 1 + 1) (.bool false) (.slice none 0 0) := (Bx.new ((w.alloc (.cells #[.bool s, .slice a n c] 24)).alloc (.cells #[.bool t, .slice b m d] 24)) _ _ _ 24 (by simp)).kept (by repeat (first | exact gb_refl _ _ | apply gb_drew | apply gb_alloc | (refine gb_then ?_ (by assumption) (by simp)))) (by simp)
      have XD : Bx wt (w.heap.size + 1 + 1 + 1) (.bool false) (.slice none 0 0) := (Bx.new (((w.alloc (.cells #[.bool s, .slice a n c] 24)).alloc (.cells #[.bool t, .slice b m d] 24)).alloc (.cells #[.bool false, .slice none 0 0] 24)) _ _ _ 24 (by simp)).kept (by repeat (first | exact gb_refl _ _ | apply gb_drew | apply gb_alloc | (refine gb_then ?_ (by assumption) (by simp)))) (by simp)
      have XX : Bx wt wX.heap.size (.bool sX) (.slice aX lX.length lX.length) := (Bx.new wX _ _ _ 24 rfl).kept (by repeat (first | exact gb_refl _ _ | apply gb_drew | apply gb_alloc | (refine gb_then ?_ (by assumption) (by simp)))) (by simp)
      have XY : Bx wt wY.heap.size (.bool sY) (.slice aY lY.length lY.length) := (Bx.new wY _ _ _ 24 rfl).kept (by repeat (first | exact gb_refl _ _ | apply gb_drew | apply gb_alloc | (refine gb_then ?_ (by assumption) (by simp)))) (by simp)
      have XQ : Bx wt wQ.heap.size (.bool sQ) (.slice aQ lQ.length lQ.length) := (Bx.new wQ _ _ _ 24 rfl).kept (by repeat (first | exact gb_refl _ _ | apply gb_drew | apply gb_alloc | (refine gb_then ?_ (by assumption) (by simp)))) (by simp)
      have SX : SL wt aX lX.length lX.length lX := hoX.sl.grown (by repeat (first | exact gb_refl _ _ | apply gb_drew | apply gb_alloc | (refine gb_then ?_ (by assumption) (by simp))))
      have SY : SL wt aY lY.length lY.length lY := hoY.sl.grown (by repeat (first | exact gb_refl _ _ | apply gb_drew | apply gb_alloc | (refine gb_then ?_ (by assumption) (by simp))))
      have OQ : OW wt (w.heap.size + 1 + 1 + 1 + 1) aQ lQ.length lQ.length lQ := (hoQ.grown (by repeat (first | exact gb_refl _ _ | apply gb_drew | apply gb_alloc | (refine gb_then ?_ (by assumption) (by simp))))).mono (by first | (simp; done) | (simp; omega) | omega)
      have G : w.grownBy wt none := (by repeat (first | exact gb_refl _ _ | apply gb_drew | apply gb_alloc | (refine gb_then ?_ (by assumption) (by simp))))
      clear hg1 kA1 mA1 jA1 kB1 mB1 jB1 kC1 mC1 jC1 kD1 mD1 jD1 hgX kAX mAX jAX kBX mBX jBX kCX mCX jCX kDX mDX jDX hgY kAY mAY jAY kBY mBY jBY kCY mCY jCY kDY mDY jDY kXY mXY jXY hgD kAD mAD jAD kBD mBD jBD kCD mCD jCD kDD mDD jDD kXD mXD jXD kYD mYD jYD hgQ kAQ mAQ jAQ kBQ mBQ jBQ kCQ mCQ jCQ kDQ mDQ jDQ kXQ mXQ jXQ kYQ mYQ jYQ kCt mCt jCt kDt mDt jDt kXt mXt jXt kYt mYt jYt kQt mQt jQt hgt hoX hoY hoQ hsM hsN
      have qC0 := XC.c0
      have qC1 := XC.c1
      have qC2 := XC.f0
      have qC3 := XC.f1
      have qC4 := XC.lt
      have qD0 := XD.c0
      have qD1 := XD.c1
      have qD2 := XD.f0
      have qD3 := XD.f1
      have qD4 := XD.lt
      have qX0 := XX.c0
      have qX1 := XX.c1
      have qX2 := XX.f0
      have qX3 := XX.f1
      have qX4 := XX.lt
      have qY0 := XY.c0
      have qY1 := XY.c1
      have qY2 := XY.f0
      have qY3 := XY.f1
      have qY4 := XY.lt
      have qQ0 := XQ.c0
      have qQ1 := XQ.c1
      have qQ2 := XQ.f0
      have qQ3 := XQ.f1
      have qQ4 := XQ.lt
      go_region_with (first
        | (go_at_call 16; refine (rof_raw 1 _ (by omega) (by omega)).mono ?_; rintro e w8 ⟨s8, a8, l8, rfl, ho8, hn8, hs8, hi8, hk8, hg8⟩; have HI8 := hid hi8; clear hi8; obtain ⟨kC8, mC8, jC8⟩ := box_kept (w.heap.size + 1 + 1) hg8 (by first | (simp; done) | (simp; omega) | omega); obtain ⟨kD8, mD8, jD8⟩ := box_kept (w.heap.size + 1 + 1 + 1) hg8 (by first | (simp; done) | (simp; omega) | omega); obtain ⟨kX8, mX8, jX8⟩ := box_kept wX.heap.size hg8 (by first | (simp; done) | (simp; omega) | omega); obtain ⟨kY8, mY8, jY8⟩ := box_kept wY.heap.size hg8 (by first | (simp; done) | (simp; omega) | omega); obtain ⟨kQ8, mQ8, jQ8⟩ := box_kept wQ.heap.size hg8 (by first | (simp; done) | (simp; omega) | omega))
        | (go_at_call 31; refine (rsub_raw sQ s8 aQ a8 _ _ _ _ lQ l8 _ (by exact OQ.sl.grown (by repeat (first | exact gb_refl _ _ | apply gb_drew | apply gb_alloc | (refine gb_then ?_ (by assumption) (by simp))))) (by exact ho8.sl.grown (by repeat (first | exact gb_refl _ _ | apply gb_drew | apply gb_alloc | (refine gb_then ?_ (by assumption) (by simp))))) (by omega) (by omega)).mono ?_; rintro e w9 ⟨s9, a9, l9, rfl, ho9, hn9, hs9, hi9, hk9, hg9⟩; have HI9 := hid hi9; clear hi9; obtain ⟨kC9, mC9, jC9⟩ := box_kept (w.heap.size + 1 + 1) hg9 (by first | (simp; done) | (simp; omega) | omega); obtain ⟨kD9, mD9, jD9⟩ := box_kept (w.heap.size + 1 + 1 + 1) hg9 (by first | (simp; done) | (simp; omega) | omega); obtain ⟨kX9, mX9, jX9⟩ := box_kept wX.heap.size hg9 (by first | (simp; done) | (simp; omega) | omega); obtain ⟨kY9, mY9, jY9⟩ := box_kept wY.heap.size hg9 (by first | (simp; done) | (simp; omega) | omega); obtain ⟨kQ9, mQ9, jQ9⟩ := box_kept wQ.heap.size hg9 (by first | (simp; done) | (simp; omega) | omega)))
      all_goals
        have T9 : wt.grownBy w9 none := (by repeat (first | exact gb_refl _ _ | apply gb_drew | apply gb_alloc | (refine gb_then ?_ (by assumption) (by simp))))
        have hz9 := hg9.size
        have hz8 := hg8.size
        have K9 : w.grownBy w9 none := gb_then G T9 (by simp)
        replace XC := XC.kept T9 (by simp)
        replace XD := XD.kept T9 (by simp)
        replace XX := XX.kept T9 (by simp)
        replace XY := XY.kept T9 (by simp)
        replace XQ := XQ.kept T9 (by simp)
        replace SX := SX.grown T9
        replace SY := SY.grown T9
        have h9 : w9.grownBy ((w9.setCell ⟨wQ.heap.size, 0, none⟩ (.bool s9)).setCell ⟨wQ.heap.size, 1, none⟩ (.slice a9 l9.length l9.length)) (some wQ.heap.size) := gb_set (gb_set (gb_refl _ _) _ _ (.inl rfl)) _ _ (.inl rfl)
        have hq9 : wQ.heap.size < w9.heap.size := XQ.lt
        replace XQ := XQ.put (.bool s9) (.slice a9 l9.length l9.length)
        replace XC := XC.kept h9 (by simp; omega)
        replace XD := XD.kept h9 (by simp; omega)
        replace XX := XX.kept h9 (by simp; omega)
        replace XY := XY.kept h9 (by simp; omega)
        replace SX := SX.kept h9 (fun i e => by cases e; exact hOffX)
        replace SY := SY.kept h9 (fun i e => by cases e; exact hOffY)
        have OE : OW _ (w.heap.size + 1 + 1 + 1 + 1) a9 l9.length l9.length l9 := (ho9.kept h9 (fun i e => by cases e; exact ho9.off (by first | (simp; done) | (simp; omega) | omega))).mono (by first | (simp; done) | (simp; omega) | omega)
        replace G := gb_then K9 h9 (fun i e => by cases e; omega)
        have HIE := HI9
        clear kC8 mC8 jC8 kC9 mC9 jC9 kD8 mD8 jD8 kD9 mD9 jD9 kX8 mX8 jX8 kX9 mX9 jX9 kY8 mY8 jY8 kY9 mY9 jY9 kQ8 mQ8 jQ8 kQ9 mQ9 jQ9 K9 T9 hg8 hg9
        generalize (w9.setCell ⟨wQ.heap.size, 0, none⟩ (.bool s9)).setCell ⟨wQ.heap.size, 1, none⟩ (.slice a9 l9.length l9.length) = wE at *
        replace qC0 := XC.c0
        replace qC1 := XC.c1
        replace qC2 := XC.f0
        replace qC3 := XC.f1
        replace qC4 := XC.lt
        replace qD0 := XD.c0
        replace qD1 := XD.c1
        replace qD2 := XD.f0
        replace qD3 := XD.f1
        replace qD4 := XD.lt
        replace qX0 := XX.c0
        replace qX1 := XX.c1
        replace qX2 := XX.f0
        replace qX3 := XX.f1
        replace qX4 := XX.lt
        replace qY0 := XY.c0
        replace qY1 := XY.c1
        replace qY2 := XY.f0
        replace qY3 := XY.f1
        replace qY4 := XY.lt
        replace qQ0 := XQ.c0
        replace qQ1 := XQ.c1
        replace qQ2 := XQ.f0
        replace qQ3 := XQ.f1
        replace qQ4 := XQ.lt
        go_wp2
        have hdmE : DM (iv sX lX) (iv sY lY) (iv s9 l9) (iv sX N + iv sY lY) := by
          rw [HI9.out, HI8.out, HIQ.out]; exact dm_adj sX sY hst (R := N) (by rw [val_tr, val_tr]; exact HVD.out) (by rw [val_tr]; exact hltD) hN
        have HDE := hid hdmE
        have HPB : Hid (val l9 * val lY < B32 ^ (max lX.length lY.length + 1)) := by
          have h5 := dm_p hdmE
          rw [Int.natAbs_mul, abs_iv, abs_iv, abs_iv] at h5
          exact Nat.lt_of_le_of_lt h5 (two_pow (Nat.lt_of_lt_of_le (val_lt lX SX.lim) (pow_mono (by omega))) (Nat.lt_of_lt_of_le (val_lt lY SY.lim) (pow_mono (by omega))))
        clear hdmE
        go_region_held3 (fun w' => w'.cell? ⟨wX.heap.size, 0, none⟩ = some (.bool sX) ∧ w'.cell? ⟨wX.heap.size, 1, none⟩ = some (.slice aX lX.length lX.length) ∧ w'.cell? ⟨wY.heap.size, 0, none⟩ = some (.bool sY) ∧ w'.cell? ⟨wY.heap.size, 1, none⟩ = some (.slice aY lY.length lY.length) ∧ w'.cell? ⟨wQ.heap.size, 0, none⟩ = some (.bool s9) ∧ w'.cell? ⟨wQ.heap.size, 1, none⟩ = some (.slice a9 l9.length l9.length)) (go_keep) (first
          | (go_at_call 32; refine (rmul_wide s9 sY a9 aY _ _ _ _ l9 lY _ (by exact OE.sl.grown (by repeat (first | exact gb_refl _ _ | apply gb_drew | apply gb_alloc | (refine gb_then ?_ (by assumption) (by simp))))) (by exact SY.grown (by repeat (first | exact gb_refl _ _ | apply gb_drew | apply gb_alloc | (refine gb_then ?_ (by assumption) (by simp))))) (max lX.length lY.length + 1) (by omega) (by omega) (by omega) HPB.out).mono ?_; rintro e wm ⟨sm, am, lm, rfl, hom, hnm, hsm, him, hkm, hgm⟩; have HIm := hid him; clear him; obtain ⟨kCm, mCm, jCm⟩ := box_kept (w.heap.size + 1 + 1) hgm (by first | (simp; done) | (simp; omega) | omega); obtain ⟨kDm, mDm, jDm⟩ := box_kept (w.heap.size + 1 + 1 + 1) hgm (by first | (simp; done) | (simp; omega) | omega); obtain ⟨kXm, mXm, jXm⟩ := box_kept wX.heap.size hgm (by first | (simp; done) | (simp; omega) | omega); obtain ⟨kYm, mYm, jYm⟩ := box_kept wY.heap.size hgm (by first | (simp; done) | (simp; omega) | omega); obtain ⟨kQm, mQm, jQm⟩ := box_kept wQ.heap.size hgm (by first | (simp; done) | (simp; omega) | omega))
          | (go_at_call 31; refine (rsub_raw sX sm aX am _ _ _ _ lX lm _ (by exact SX.grown (by repeat (first | exact gb_refl _ _ | apply gb_drew | apply gb_alloc | (refine gb_then ?_ (by assumption) (by simp))))) (by exact hom.sl.grown (by repeat (first | exact gb_refl _ _ | apply gb_drew | apply gb_alloc | (refine gb_then ?_ (by assumption) (by simp))))) (by omega) (by omega)).mono ?_; rintro e wr ⟨sr, ar, lr, rfl, hor, hnr, hsr, hir, hkr, hgr⟩; have HIr := hid hir; clear hir; obtain ⟨kCr, mCr, jCr⟩ := box_kept (w.heap.size + 1 + 1) hgr (by first | (simp; done) | (simp; omega) | omega); obtain ⟨kDr, mDr, jDr⟩ := box_kept (w.heap.size + 1 + 1 + 1) hgr (by first | (simp; done) | (simp; omega) | omega); obtain ⟨kXr, mXr, jXr⟩ := box_kept wX.heap.size hgr (by first | (simp; done) | (simp; omega) | omega); obtain ⟨kYr, mYr, jYr⟩ := box_kept wY.heap.size hgr (by first | (simp; done) | (simp; omega) | omega); obtain ⟨kQr, mQr, jQr⟩ := box_kept wQ.heap.size hgr (by first | (simp; done) | (simp; omega) | omega)))
        all_goals go_wp2
        all_goals
          have E2 : Bx wr (w.heap.size + 1 + 1) _ _ := XC.kept (by repeat (first | exact gb_refl _ _ | apply gb_drew | apply gb_alloc | (refine gb_then ?_ (by assumption) (by simp)))) (by simp)
          have E3 : Bx wr (w.heap.size + 1 + 1 + 1) _ _ := XD.kept (by repeat (first | exact gb_refl _ _ | apply gb_drew | apply gb_alloc | (refine gb_then ?_ (by assumption) (by simp)))) (by simp)
          have D2 := (E2.put (.bool s9) (.slice a9 l9.length l9.length)).other hne6 (.bool sr) (.slice ar lr.length lr.length)
          have D3 := (E3.other hne5 (.bool s9) (.slice a9 l9.length l9.length)).put (.bool sr) (.slice ar lr.length lr.length)
          refine bodyPost_ret (v := .tuple #[.agg #[.bool s9, .slice a9 l9.length l9.length], .agg #[.bool sr, .slice ar lr.length lr.length], .int .i64 0]) (by simp [results, Try.results34, go_sem, D2.c0, D2.c1, D3.c0, D3.c1]) rfl ?_
          refine rdivmod_end (by repeat (first | exact gb_refl _ _ | apply gb_drew | apply gb_alloc | (refine gb_then ?_ (by assumption) (by simp)))) (OE.grown (by repeat (first | exact gb_refl _ _ | apply gb_drew | apply gb_alloc | (refine gb_then ?_ (by assumption) (by simp))))) hor ?_ (by omega) (by omega) (by omega) (by omega) (by first | (simp; done) | (simp; omega) | omega) (by first | (simp; done) | (simp; omega) | omega)
          refine dm_of (r' := iv sX N + iv sY lY) ?_ (by rw [HIr.out, HIm.out, HIX.out, HIY.out])
          rw [← HIX.out, ← HIY.out]; exact HDE.out
end Go.Proofs.Ytonfnkchpicoiaa
