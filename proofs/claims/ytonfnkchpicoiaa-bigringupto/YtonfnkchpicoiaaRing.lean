/-
  The walk of the law BigRing: it answers true.
-/
import Derived.Test.YtonfnkchpicoiaaAwake
namespace Go.Proofs.Ytonfnkchpicoiaa
set_option linter.unusedSimpArgs false
set_option linter.unusedVariables false
open Go.RowKit
attribute [local go_sem ↓] Go.wp_at_zero Go.wp_at_succ

set_option maxHeartbeats 12800000 in
set_option maxRecDepth 100000 in
theorem ring_walk (s1 s2 s3 : Bool) (a1 a2 a3 : Option Addr) (n1 c1 n2 c2 n3 c3 : Nat) (x1 x2 x3 : List Nat) (w : World) (SA : SL w a1 n1 c1 x1) (SB : SL w a2 n2 c2 x2) (SC : SL w a3 n3 c3 x3) (h1 : n1 ≤ 1048576) (h2 : n2 ≤ 1048576) (h3 : n3 ≤ 1048576) :
    Calls Try.prog 8 #[.agg #[.bool s1, .slice a1 n1 c1], .agg #[.bool s2, .slice a2 n2 c2], .agg #[.bool s3, .slice a3 n3 c3]] w fun e w' => e = .returned (.bool true) ∧ w.grownBy w' none := by
  have hne1 : ¬ (w.heap.size + 1 + 1 = w.heap.size) := by omega
  have hne2 : ¬ (w.heap.size + 1 + 1 = w.heap.size + 1) := by omega
  go_enter Try.func8, Try.ntmps8
  go_wp2_with fail
  refine (awake_raw _).mono ?_
  rintro e w1 ⟨rfl, hg1⟩
  obtain ⟨kA1, mA1, jA1⟩ := box_kept w.heap.size hg1 (by first | (simp; done) | (simp; omega) | omega)
  obtain ⟨kB1, mB1, jB1⟩ := box_kept (w.heap.size + 1) hg1 (by first | (simp; done) | (simp; omega) | omega)
  obtain ⟨kC1, mC1, jC1⟩ := box_kept (w.heap.size + 1 + 1) hg1 (by first | (simp; done) | (simp; omega) | omega)
  go_wp2_with fail
  refine (add_raw s1 s2 a1 a2 n1 c1 n2 c2 x1 x2 _ (by exact SA.grown (by repeat (first | exact gb_refl _ _ | apply gb_drew | apply gb_alloc | (refine gb_then ?_ (by assumption) (by simp))))) (by exact SB.grown (by repeat (first | exact gb_refl _ _ | apply gb_drew | apply gb_alloc | (refine gb_then ?_ (by assumption) (by simp))))) (by omega) (by omega)).mono ?_
  rintro e wD ⟨sD, aD, lD, rfl, hoD, hnD, hsD, hiD, hkD, haD, hgD⟩
  have HID := hid hiD
  clear hiD
  obtain ⟨kA2, mA2, jA2⟩ := box_kept w.heap.size hgD (by first | (simp; done) | (simp; omega) | omega)
  obtain ⟨kB2, mB2, jB2⟩ := box_kept (w.heap.size + 1) hgD (by first | (simp; done) | (simp; omega) | omega)
  obtain ⟨kC2, mC2, jC2⟩ := box_kept (w.heap.size + 1 + 1) hgD (by first | (simp; done) | (simp; omega) | omega)
  go_wp2_with fail
  refine (add_raw s2 s3 a2 a3 n2 c2 n3 c3 x2 x3 _ (by exact SB.grown (by repeat (first | exact gb_refl _ _ | apply gb_drew | apply gb_alloc | (refine gb_then ?_ (by assumption) (by simp))))) (by exact SC.grown (by repeat (first | exact gb_refl _ _ | apply gb_drew | apply gb_alloc | (refine gb_then ?_ (by assumption) (by simp))))) (by omega) (by omega)).mono ?_
  rintro e wE ⟨sE, aE, lE, rfl, hoE, hnE, hsE, hiE, hkE, haE, hgE⟩
  have HIE := hid hiE
  clear hiE
  go_wp2_with fail
  have XA : Bx (wE.alloc (.cells #[.bool sE, .slice aE lE.length lE.length] 24)) w.heap.size (.bool s1) (.slice a1 n1 c1) := (Bx.new w _ _ _ 24 rfl).kept (by repeat (first | exact gb_refl _ _ | apply gb_drew | apply gb_alloc | (refine gb_then ?_ (by assumption) (by simp)))) (by simp)
  have XB : Bx (wE.alloc (.cells #[.bool sE, .slice aE lE.length lE.length] 24)) (w.heap.size + 1) (.bool s2) (.slice a2 n2 c2) := (Bx.new (w.alloc (.cells #[.bool s1, .slice a1 n1 c1] 24)) _ _ _ 24 (by simp)).kept (by repeat (first | exact gb_refl _ _ | apply gb_drew | apply gb_alloc | (refine gb_then ?_ (by assumption) (by simp)))) (by simp)
  have XC : Bx (wE.alloc (.cells #[.bool sE, .slice aE lE.length lE.length] 24)) (w.heap.size + 1 + 1) (.bool s3) (.slice a3 n3 c3) := (Bx.new ((w.alloc (.cells #[.bool s1, .slice a1 n1 c1] 24)).alloc (.cells #[.bool s2, .slice a2 n2 c2] 24)) _ _ _ 24 (by simp)).kept (by repeat (first | exact gb_refl _ _ | apply gb_drew | apply gb_alloc | (refine gb_then ?_ (by assumption) (by simp)))) (by simp)
  have XD : Bx (wE.alloc (.cells #[.bool sE, .slice aE lE.length lE.length] 24)) wD.heap.size (.bool sD) (.slice aD lD.length lD.length) := (Bx.new wD _ _ _ 24 rfl).kept (by repeat (first | exact gb_refl _ _ | apply gb_drew | apply gb_alloc | (refine gb_then ?_ (by assumption) (by simp)))) (by simp)
  have XE : Bx (wE.alloc (.cells #[.bool sE, .slice aE lE.length lE.length] 24)) wE.heap.size (.bool sE) (.slice aE lE.length lE.length) := Bx.new wE _ _ _ 24 rfl
  have SD : SL (wE.alloc (.cells #[.bool sE, .slice aE lE.length lE.length] 24)) aD lD.length lD.length lD := hoD.sl.grown (by repeat (first | exact gb_refl _ _ | apply gb_drew | apply gb_alloc | (refine gb_then ?_ (by assumption) (by simp))))
  have SE : SL (wE.alloc (.cells #[.bool sE, .slice aE lE.length lE.length] 24)) aE lE.length lE.length lE := hoE.sl.grown (by repeat (first | exact gb_refl _ _ | apply gb_drew | apply gb_alloc | (refine gb_then ?_ (by assumption) (by simp))))
  replace SA : SL (wE.alloc (.cells #[.bool sE, .slice aE lE.length lE.length] 24)) a1 n1 c1 x1 := SA.grown (by repeat (first | exact gb_refl _ _ | apply gb_drew | apply gb_alloc | (refine gb_then ?_ (by assumption) (by simp))))
  replace SB : SL (wE.alloc (.cells #[.bool sE, .slice aE lE.length lE.length] 24)) a2 n2 c2 x2 := SB.grown (by repeat (first | exact gb_refl _ _ | apply gb_drew | apply gb_alloc | (refine gb_then ?_ (by assumption) (by simp))))
  replace SC : SL (wE.alloc (.cells #[.bool sE, .slice aE lE.length lE.length] 24)) a3 n3 c3 x3 := SC.grown (by repeat (first | exact gb_refl _ _ | apply gb_drew | apply gb_alloc | (refine gb_then ?_ (by assumption) (by simp))))
  have G : w.grownBy (wE.alloc (.cells #[.bool sE, .slice aE lE.length lE.length] 24)) none := (by repeat (first | exact gb_refl _ _ | apply gb_drew | apply gb_alloc | (refine gb_then ?_ (by assumption) (by simp))))
  have qA0 := XA.c0
  have qA1 := XA.c1
  have qA2 := XA.lt
  have qB0 := XB.c0
  have qB1 := XB.c1
  have qB2 := XB.lt
  have qC0 := XC.c0
  have qC1 := XC.c1
  have qC2 := XC.lt
  have qD0 := XD.c0
  have qD1 := XD.c1
  have qD2 := XD.lt
  have qE0 := XE.c0
  have qE1 := XE.c1
  have qE2 := XE.lt
  clear hg1 kA1 mA1 jA1 kB1 mB1 jB1 kC1 mC1 jC1 hgD kA2 mA2 jA2 kB2 mB2 jB2 kC2 mC2 jC2 hgE hoD hoE
  generalize wE.alloc (.cells #[.bool sE, .slice aE lE.length lE.length] 24) = wF at *
  go_wp2
  go_region_held3 (fun w' => w'.cell? ⟨w.heap.size, 0, none⟩ = some (.bool s1) ∧ w'.cell? ⟨w.heap.size, 1, none⟩ = some (.slice a1 n1 c1) ∧ w'.cell? ⟨(w.heap.size + 1 + 1), 0, none⟩ = some (.bool s3) ∧ w'.cell? ⟨(w.heap.size + 1 + 1), 1, none⟩ = some (.slice a3 n3 c3) ∧ w'.cell? ⟨wD.heap.size, 0, none⟩ = some (.bool sD) ∧ w'.cell? ⟨wD.heap.size, 1, none⟩ = some (.slice aD lD.length lD.length) ∧ w'.cell? ⟨wE.heap.size, 0, none⟩ = some (.bool sE) ∧ w'.cell? ⟨wE.heap.size, 1, none⟩ = some (.slice aE lE.length lE.length)) (go_keep) (first
    | (go_at_call 20; have hgd := hgq4; clear hgd; refine (cmp_raw sp4 sq4 ap4 aq4 lp4.length lp4.length lq4.length lq4.length lp4 lq4 _ (by exact hop4.sl.grown (by repeat (first | exact gb_refl _ _ | apply gb_drew | apply gb_alloc | (refine gb_then ?_ (by assumption) (by simp))))) (by exact hoq4.sl.grown (by repeat (first | exact gb_refl _ _ | apply gb_drew | apply gb_alloc | (refine gb_then ?_ (by assumption) (by simp)))))).mono ?_; rintro e wr4 ⟨rfl, hgr4⟩; obtain ⟨kAr4, mAr4, jAr4⟩ := box_kept w.heap.size hgr4 (by first | (simp; done) | (simp; omega) | omega); obtain ⟨kCr4, mCr4, jCr4⟩ := box_kept (w.heap.size + 1 + 1) hgr4 (by first | (simp; done) | (simp; omega) | omega); obtain ⟨kDr4, mDr4, jDr4⟩ := box_kept wD.heap.size hgr4 (by first | (simp; done) | (simp; omega) | omega); obtain ⟨kEr4, mEr4, jEr4⟩ := box_kept wE.heap.size hgr4 (by first | (simp; done) | (simp; omega) | omega))
    | (go_at_call 23; have hgd := hgp4; clear hgd; refine (add_raw s1 sE a1 aE n1 c1 lE.length lE.length x1 lE _ (by exact SA.grown (by repeat (first | exact gb_refl _ _ | apply gb_drew | apply gb_alloc | (refine gb_then ?_ (by assumption) (by simp))))) (by exact SE.grown (by repeat (first | exact gb_refl _ _ | apply gb_drew | apply gb_alloc | (refine gb_then ?_ (by assumption) (by simp))))) (by omega) (by omega)).mono ?_; rintro e wq4 ⟨sq4, aq4, lq4, rfl, hoq4, hnq4, hsq4, hiq4, hkq4, haq4, hgq4⟩; have HIq4 := hid hiq4; clear hiq4; obtain ⟨kAq4, mAq4, jAq4⟩ := box_kept w.heap.size hgq4 (by first | (simp; done) | (simp; omega) | omega); obtain ⟨kCq4, mCq4, jCq4⟩ := box_kept (w.heap.size + 1 + 1) hgq4 (by first | (simp; done) | (simp; omega) | omega); obtain ⟨kDq4, mDq4, jDq4⟩ := box_kept wD.heap.size hgq4 (by first | (simp; done) | (simp; omega) | omega); obtain ⟨kEq4, mEq4, jEq4⟩ := box_kept wE.heap.size hgq4 (by first | (simp; done) | (simp; omega) | omega))
    | (go_at_call 23; refine (add_raw sD s3 aD a3 lD.length lD.length n3 c3 lD x3 _ (by exact SD.grown (by repeat (first | exact gb_refl _ _ | apply gb_drew | apply gb_alloc | (refine gb_then ?_ (by assumption) (by simp))))) (by exact SC.grown (by repeat (first | exact gb_refl _ _ | apply gb_drew | apply gb_alloc | (refine gb_then ?_ (by assumption) (by simp))))) (by omega) (by omega)).mono ?_; rintro e wp4 ⟨sp4, ap4, lp4, rfl, hop4, hnp4, hsp4, hip4, hkp4, hap4, hgp4⟩; have HIp4 := hid hip4; clear hip4; obtain ⟨kAp4, mAp4, jAp4⟩ := box_kept w.heap.size hgp4 (by first | (simp; done) | (simp; omega) | omega); obtain ⟨kCp4, mCp4, jCp4⟩ := box_kept (w.heap.size + 1 + 1) hgp4 (by first | (simp; done) | (simp; omega) | omega); obtain ⟨kDp4, mDp4, jDp4⟩ := box_kept wD.heap.size hgp4 (by first | (simp; done) | (simp; omega) | omega); obtain ⟨kEp4, mEp4, jEp4⟩ := box_kept wE.heap.size hgp4 (by first | (simp; done) | (simp; omega) | omega)))
  have F4 : (sgn (iv sp4 lp4 - iv sq4 lq4) == 0) = true := by
    rw [sgn_zero, decide_eq_true_eq]
    rw [HIp4.out, HIq4.out, HID.out, HIE.out]; omega
  replace XA : Bx wr4 w.heap.size (.bool s1) (.slice a1 n1 c1) := XA.kept (by repeat (first | exact gb_refl _ _ | apply gb_drew | apply gb_alloc | (refine gb_then ?_ (by assumption) (by simp)))) (by simp)
  replace SA : SL wr4 a1 n1 c1 x1 := SA.grown (by repeat (first | exact gb_refl _ _ | apply gb_drew | apply gb_alloc | (refine gb_then ?_ (by assumption) (by simp))))
  replace XB : Bx wr4 (w.heap.size + 1) (.bool s2) (.slice a2 n2 c2) := XB.kept (by repeat (first | exact gb_refl _ _ | apply gb_drew | apply gb_alloc | (refine gb_then ?_ (by assumption) (by simp)))) (by simp)
  replace SB : SL wr4 a2 n2 c2 x2 := SB.grown (by repeat (first | exact gb_refl _ _ | apply gb_drew | apply gb_alloc | (refine gb_then ?_ (by assumption) (by simp))))
  replace XC : Bx wr4 (w.heap.size + 1 + 1) (.bool s3) (.slice a3 n3 c3) := XC.kept (by repeat (first | exact gb_refl _ _ | apply gb_drew | apply gb_alloc | (refine gb_then ?_ (by assumption) (by simp)))) (by simp)
  replace SC : SL wr4 a3 n3 c3 x3 := SC.grown (by repeat (first | exact gb_refl _ _ | apply gb_drew | apply gb_alloc | (refine gb_then ?_ (by assumption) (by simp))))
  replace XD : Bx wr4 wD.heap.size (.bool sD) (.slice aD lD.length lD.length) := XD.kept (by repeat (first | exact gb_refl _ _ | apply gb_drew | apply gb_alloc | (refine gb_then ?_ (by assumption) (by simp)))) (by simp)
  replace SD : SL wr4 aD lD.length lD.length lD := SD.grown (by repeat (first | exact gb_refl _ _ | apply gb_drew | apply gb_alloc | (refine gb_then ?_ (by assumption) (by simp))))
  replace XE : Bx wr4 wE.heap.size (.bool sE) (.slice aE lE.length lE.length) := XE.kept (by repeat (first | exact gb_refl _ _ | apply gb_drew | apply gb_alloc | (refine gb_then ?_ (by assumption) (by simp)))) (by simp)
  replace SE : SL wr4 aE lE.length lE.length lE := SE.grown (by repeat (first | exact gb_refl _ _ | apply gb_drew | apply gb_alloc | (refine gb_then ?_ (by assumption) (by simp))))
  replace G : w.grownBy wr4 none := (by repeat (first | exact gb_refl _ _ | apply gb_drew | apply gb_alloc | (refine gb_then ?_ (by assumption) (by simp))))
  replace qA0 := XA.c0
  replace qA1 := XA.c1
  replace qA2 := XA.lt
  replace qB0 := XB.c0
  replace qB1 := XB.c1
  replace qB2 := XB.lt
  replace qC0 := XC.c0
  replace qC1 := XC.c1
  replace qC2 := XC.lt
  replace qD0 := XD.c0
  replace qD1 := XD.c1
  replace qD2 := XD.lt
  replace qE0 := XE.c0
  replace qE1 := XE.c1
  replace qE2 := XE.lt
  clear hgp4 kAp4 mAp4 jAp4 kCp4 mCp4 jCp4 kDp4 mDp4 jDp4 kEp4 mEp4 jEp4 hop4 hnp4 hsp4 hkp4 hap4 HIp4 hgq4 kAq4 mAq4 jAq4 kCq4 mCq4 jCq4 kDq4 mDq4 jDq4 kEq4 mEq4 jEq4 hoq4 hnq4 hsq4 hkq4 haq4 HIq4 hgr4 kAr4 mAr4 jAr4 kCr4 mCr4 jCr4 kDr4 mDr4 jDr4 kEr4 mEr4 jEr4
  go_wp2
  go_region_held3 (fun w' => w'.cell? ⟨w.heap.size, 0, none⟩ = some (.bool s1) ∧ w'.cell? ⟨w.heap.size, 1, none⟩ = some (.slice a1 n1 c1) ∧ w'.cell? ⟨(w.heap.size + 1), 0, none⟩ = some (.bool s2) ∧ w'.cell? ⟨(w.heap.size + 1), 1, none⟩ = some (.slice a2 n2 c2)) (go_keep) (first
    | (go_at_call 20; have hgd := hgq5; clear hgd; refine (cmp_raw sp5 sq5 ap5 aq5 lp5.length lp5.length lq5.length lq5.length lp5 lq5 _ (by exact hop5.sl.grown (by repeat (first | exact gb_refl _ _ | apply gb_drew | apply gb_alloc | (refine gb_then ?_ (by assumption) (by simp))))) (by exact hoq5.sl.grown (by repeat (first | exact gb_refl _ _ | apply gb_drew | apply gb_alloc | (refine gb_then ?_ (by assumption) (by simp)))))).mono ?_; rintro e wr5 ⟨rfl, hgr5⟩; obtain ⟨kAr5, mAr5, jAr5⟩ := box_kept w.heap.size hgr5 (by first | (simp; done) | (simp; omega) | omega); obtain ⟨kBr5, mBr5, jBr5⟩ := box_kept (w.heap.size + 1) hgr5 (by first | (simp; done) | (simp; omega) | omega))
    | (go_at_call 25; have hgd := hgp5; clear hgd; refine (mul_raw s2 s1 a2 a1 n2 c2 n1 c1 x2 x1 _ (by exact SB.grown (by repeat (first | exact gb_refl _ _ | apply gb_drew | apply gb_alloc | (refine gb_then ?_ (by assumption) (by simp))))) (by exact SA.grown (by repeat (first | exact gb_refl _ _ | apply gb_drew | apply gb_alloc | (refine gb_then ?_ (by assumption) (by simp))))) (by omega)).mono ?_; rintro e wq5 ⟨sq5, aq5, lq5, rfl, hoq5, hnq5, hsq5, hiq5, hkq5, haq5, hgq5⟩; have HIq5 := hid hiq5; clear hiq5; obtain ⟨kAq5, mAq5, jAq5⟩ := box_kept w.heap.size hgq5 (by first | (simp; done) | (simp; omega) | omega); obtain ⟨kBq5, mBq5, jBq5⟩ := box_kept (w.heap.size + 1) hgq5 (by first | (simp; done) | (simp; omega) | omega))
    | (go_at_call 25; refine (mul_raw s1 s2 a1 a2 n1 c1 n2 c2 x1 x2 _ (by exact SA.grown (by repeat (first | exact gb_refl _ _ | apply gb_drew | apply gb_alloc | (refine gb_then ?_ (by assumption) (by simp))))) (by exact SB.grown (by repeat (first | exact gb_refl _ _ | apply gb_drew | apply gb_alloc | (refine gb_then ?_ (by assumption) (by simp))))) (by omega)).mono ?_; rintro e wp5 ⟨sp5, ap5, lp5, rfl, hop5, hnp5, hsp5, hip5, hkp5, hap5, hgp5⟩; have HIp5 := hid hip5; clear hip5; obtain ⟨kAp5, mAp5, jAp5⟩ := box_kept w.heap.size hgp5 (by first | (simp; done) | (simp; omega) | omega); obtain ⟨kBp5, mBp5, jBp5⟩ := box_kept (w.heap.size + 1) hgp5 (by first | (simp; done) | (simp; omega) | omega)))
  have F5 : (sgn (iv sp5 lp5 - iv sq5 lq5) == 0) = true := by
    rw [sgn_zero, decide_eq_true_eq]
    rw [HIp5.out, HIq5.out, Int.mul_comm]; omega
  replace XA : Bx wr5 w.heap.size (.bool s1) (.slice a1 n1 c1) := XA.kept (by repeat (first | exact gb_refl _ _ | apply gb_drew | apply gb_alloc | (refine gb_then ?_ (by assumption) (by simp)))) (by simp)
  replace SA : SL wr5 a1 n1 c1 x1 := SA.grown (by repeat (first | exact gb_refl _ _ | apply gb_drew | apply gb_alloc | (refine gb_then ?_ (by assumption) (by simp))))
  replace XB : Bx wr5 (w.heap.size + 1) (.bool s2) (.slice a2 n2 c2) := XB.kept (by repeat (first | exact gb_refl _ _ | apply gb_drew | apply gb_alloc | (refine gb_then ?_ (by assumption) (by simp)))) (by simp)
  replace SB : SL wr5 a2 n2 c2 x2 := SB.grown (by repeat (first | exact gb_refl _ _ | apply gb_drew | apply gb_alloc | (refine gb_then ?_ (by assumption) (by simp))))
  replace XC : Bx wr5 (w.heap.size + 1 + 1) (.bool s3) (.slice a3 n3 c3) := XC.kept (by repeat (first | exact gb_refl _ _ | apply gb_drew | apply gb_alloc | (refine gb_then ?_ (by assumption) (by simp)))) (by simp)
  replace SC : SL wr5 a3 n3 c3 x3 := SC.grown (by repeat (first | exact gb_refl _ _ | apply gb_drew | apply gb_alloc | (refine gb_then ?_ (by assumption) (by simp))))
  replace XD : Bx wr5 wD.heap.size (.bool sD) (.slice aD lD.length lD.length) := XD.kept (by repeat (first | exact gb_refl _ _ | apply gb_drew | apply gb_alloc | (refine gb_then ?_ (by assumption) (by simp)))) (by simp)
  replace SD : SL wr5 aD lD.length lD.length lD := SD.grown (by repeat (first | exact gb_refl _ _ | apply gb_drew | apply gb_alloc | (refine gb_then ?_ (by assumption) (by simp))))
  replace XE : Bx wr5 wE.heap.size (.bool sE) (.slice aE lE.length lE.length) := XE.kept (by repeat (first | exact gb_refl _ _ | apply gb_drew | apply gb_alloc | (refine gb_then ?_ (by assumption) (by simp)))) (by simp)
  replace SE : SL wr5 aE lE.length lE.length lE := SE.grown (by repeat (first | exact gb_refl _ _ | apply gb_drew | apply gb_alloc | (refine gb_then ?_ (by assumption) (by simp))))
  replace G : w.grownBy wr5 none := (by repeat (first | exact gb_refl _ _ | apply gb_drew | apply gb_alloc | (refine gb_then ?_ (by assumption) (by simp))))
  replace qA0 := XA.c0
  replace qA1 := XA.c1
  replace qA2 := XA.lt
  replace qB0 := XB.c0
  replace qB1 := XB.c1
  replace qB2 := XB.lt
  replace qC0 := XC.c0
  replace qC1 := XC.c1
  replace qC2 := XC.lt
  replace qD0 := XD.c0
  replace qD1 := XD.c1
  replace qD2 := XD.lt
  replace qE0 := XE.c0
  replace qE1 := XE.c1
  replace qE2 := XE.lt
  clear hgp5 kAp5 mAp5 jAp5 kBp5 mBp5 jBp5 hop5 hnp5 hsp5 hkp5 hap5 HIp5 hgq5 kAq5 mAq5 jAq5 kBq5 mBq5 jBq5 hoq5 hnq5 hsq5 hkq5 haq5 HIq5 hgr5 kAr5 mAr5 jAr5 kBr5 mBr5 jBr5
  go_wp2
  go_region_held3 (fun w' => w'.cell? ⟨w.heap.size, 0, none⟩ = some (.bool s1) ∧ w'.cell? ⟨w.heap.size, 1, none⟩ = some (.slice a1 n1 c1) ∧ w'.cell? ⟨(w.heap.size + 1), 0, none⟩ = some (.bool s2) ∧ w'.cell? ⟨(w.heap.size + 1), 1, none⟩ = some (.slice a2 n2 c2) ∧ w'.cell? ⟨(w.heap.size + 1 + 1), 0, none⟩ = some (.bool s3) ∧ w'.cell? ⟨(w.heap.size + 1 + 1), 1, none⟩ = some (.slice a3 n3 c3)) (go_keep) (first
    | (go_at_call 20; have hgd := hgt6; clear hgd; refine (cmp_raw sq6 st6 aq6 at6 lq6.length lq6.length lt6.length lt6.length lq6 lt6 _ (by exact hoq6.sl.grown (by repeat (first | exact gb_refl _ _ | apply gb_drew | apply gb_alloc | (refine gb_then ?_ (by assumption) (by simp))))) (by exact hot6.sl.grown (by repeat (first | exact gb_refl _ _ | apply gb_drew | apply gb_alloc | (refine gb_then ?_ (by assumption) (by simp)))))).mono ?_; rintro e wu6 ⟨rfl, hgu6⟩; obtain ⟨kAu6, mAu6, jAu6⟩ := box_kept w.heap.size hgu6 (by first | (simp; done) | (simp; omega) | omega); obtain ⟨kBu6, mBu6, jBu6⟩ := box_kept (w.heap.size + 1) hgu6 (by first | (simp; done) | (simp; omega) | omega); obtain ⟨kCu6, mCu6, jCu6⟩ := box_kept (w.heap.size + 1 + 1) hgu6 (by first | (simp; done) | (simp; omega) | omega))
    | (go_at_call 25; have hgd := hgr6; clear hgd; refine (mul_raw s1 sr6 a1 ar6 n1 c1 lr6.length lr6.length x1 lr6 _ (by exact SA.grown (by repeat (first | exact gb_refl _ _ | apply gb_drew | apply gb_alloc | (refine gb_then ?_ (by assumption) (by simp))))) (by exact hor6.sl.grown (by repeat (first | exact gb_refl _ _ | apply gb_drew | apply gb_alloc | (refine gb_then ?_ (by assumption) (by simp))))) (by omega)).mono ?_; rintro e wt6 ⟨st6, at6, lt6, rfl, hot6, hnt6, hst6, hit6, hkt6, hat6, hgt6⟩; have HIt6 := hid hit6; clear hit6; obtain ⟨kAt6, mAt6, jAt6⟩ := box_kept w.heap.size hgt6 (by first | (simp; done) | (simp; omega) | omega); obtain ⟨kBt6, mBt6, jBt6⟩ := box_kept (w.heap.size + 1) hgt6 (by first | (simp; done) | (simp; omega) | omega); obtain ⟨kCt6, mCt6, jCt6⟩ := box_kept (w.heap.size + 1 + 1) hgt6 (by first | (simp; done) | (simp; omega) | omega))
    | (go_at_call 25; have hgd := hgq6; clear hgd; refine (mul_raw s2 s3 a2 a3 n2 c2 n3 c3 x2 x3 _ (by exact SB.grown (by repeat (first | exact gb_refl _ _ | apply gb_drew | apply gb_alloc | (refine gb_then ?_ (by assumption) (by simp))))) (by exact SC.grown (by repeat (first | exact gb_refl _ _ | apply gb_drew | apply gb_alloc | (refine gb_then ?_ (by assumption) (by simp))))) (by omega)).mono ?_; rintro e wr6 ⟨sr6, ar6, lr6, rfl, hor6, hnr6, hsr6, hir6, hkr6, har6, hgr6⟩; have HIr6 := hid hir6; clear hir6; obtain ⟨kAr6, mAr6, jAr6⟩ := box_kept w.heap.size hgr6 (by first | (simp; done) | (simp; omega) | omega); obtain ⟨kBr6, mBr6, jBr6⟩ := box_kept (w.heap.size + 1) hgr6 (by first | (simp; done) | (simp; omega) | omega); obtain ⟨kCr6, mCr6, jCr6⟩ := box_kept (w.heap.size + 1 + 1) hgr6 (by first | (simp; done) | (simp; omega) | omega))
    | (go_at_call 25; have hgd := hgp6; clear hgd; refine (mul_raw sp6 s3 ap6 a3 lp6.length lp6.length n3 c3 lp6 x3 _ (by exact hop6.sl.grown (by repeat (first | exact gb_refl _ _ | apply gb_drew | apply gb_alloc | (refine gb_then ?_ (by assumption) (by simp))))) (by exact SC.grown (by repeat (first | exact gb_refl _ _ | apply gb_drew | apply gb_alloc | (refine gb_then ?_ (by assumption) (by simp))))) (by omega)).mono ?_; rintro e wq6 ⟨sq6, aq6, lq6, rfl, hoq6, hnq6, hsq6, hiq6, hkq6, haq6, hgq6⟩; have HIq6 := hid hiq6; clear hiq6; obtain ⟨kAq6, mAq6, jAq6⟩ := box_kept w.heap.size hgq6 (by first | (simp; done) | (simp; omega) | omega); obtain ⟨kBq6, mBq6, jBq6⟩ := box_kept (w.heap.size + 1) hgq6 (by first | (simp; done) | (simp; omega) | omega); obtain ⟨kCq6, mCq6, jCq6⟩ := box_kept (w.heap.size + 1 + 1) hgq6 (by first | (simp; done) | (simp; omega) | omega))
    | (go_at_call 25; refine (mul_raw s1 s2 a1 a2 n1 c1 n2 c2 x1 x2 _ (by exact SA.grown (by repeat (first | exact gb_refl _ _ | apply gb_drew | apply gb_alloc | (refine gb_then ?_ (by assumption) (by simp))))) (by exact SB.grown (by repeat (first | exact gb_refl _ _ | apply gb_drew | apply gb_alloc | (refine gb_then ?_ (by assumption) (by simp))))) (by omega)).mono ?_; rintro e wp6 ⟨sp6, ap6, lp6, rfl, hop6, hnp6, hsp6, hip6, hkp6, hap6, hgp6⟩; have HIp6 := hid hip6; clear hip6; obtain ⟨kAp6, mAp6, jAp6⟩ := box_kept w.heap.size hgp6 (by first | (simp; done) | (simp; omega) | omega); obtain ⟨kBp6, mBp6, jBp6⟩ := box_kept (w.heap.size + 1) hgp6 (by first | (simp; done) | (simp; omega) | omega); obtain ⟨kCp6, mCp6, jCp6⟩ := box_kept (w.heap.size + 1 + 1) hgp6 (by first | (simp; done) | (simp; omega) | omega)))
  have F6 : (sgn (iv sq6 lq6 - iv st6 lt6) == 0) = true := by
    rw [sgn_zero, decide_eq_true_eq]
    rw [HIq6.out, HIt6.out, HIp6.out, HIr6.out, Int.mul_assoc]; omega
  replace XA : Bx wu6 w.heap.size (.bool s1) (.slice a1 n1 c1) := XA.kept (by repeat (first | exact gb_refl _ _ | apply gb_drew | apply gb_alloc | (refine gb_then ?_ (by assumption) (by simp)))) (by simp)
  replace SA : SL wu6 a1 n1 c1 x1 := SA.grown (by repeat (first | exact gb_refl _ _ | apply gb_drew | apply gb_alloc | (refine gb_then ?_ (by assumption) (by simp))))
  replace XB : Bx wu6 (w.heap.size + 1) (.bool s2) (.slice a2 n2 c2) := XB.kept (by repeat (first | exact gb_refl _ _ | apply gb_drew | apply gb_alloc | (refine gb_then ?_ (by assumption) (by simp)))) (by simp)
  replace SB : SL wu6 a2 n2 c2 x2 := SB.grown (by repeat (first | exact gb_refl _ _ | apply gb_drew | apply gb_alloc | (refine gb_then ?_ (by assumption) (by simp))))
  replace XC : Bx wu6 (w.heap.size + 1 + 1) (.bool s3) (.slice a3 n3 c3) := XC.kept (by repeat (first | exact gb_refl _ _ | apply gb_drew | apply gb_alloc | (refine gb_then ?_ (by assumption) (by simp)))) (by simp)
  replace SC : SL wu6 a3 n3 c3 x3 := SC.grown (by repeat (first | exact gb_refl _ _ | apply gb_drew | apply gb_alloc | (refine gb_then ?_ (by assumption) (by simp))))
  replace XD : Bx wu6 wD.heap.size (.bool sD) (.slice aD lD.length lD.length) := XD.kept (by repeat (first | exact gb_refl _ _ | apply gb_drew | apply gb_alloc | (refine gb_then ?_ (by assumption) (by simp)))) (by simp)
  replace SD : SL wu6 aD lD.length lD.length lD := SD.grown (by repeat (first | exact gb_refl _ _ | apply gb_drew | apply gb_alloc | (refine gb_then ?_ (by assumption) (by simp))))
  replace XE : Bx wu6 wE.heap.size (.bool sE) (.slice aE lE.length lE.length) := XE.kept (by repeat (first | exact gb_refl _ _ | apply gb_drew | apply gb_alloc | (refine gb_then ?_ (by assumption) (by simp)))) (by simp)
  replace SE : SL wu6 aE lE.length lE.length lE := SE.grown (by repeat (first | exact gb_refl _ _ | apply gb_drew | apply gb_alloc | (refine gb_then ?_ (by assumption) (by simp))))
  replace G : w.grownBy wu6 none := (by repeat (first | exact gb_refl _ _ | apply gb_drew | apply gb_alloc | (refine gb_then ?_ (by assumption) (by simp))))
  replace qA0 := XA.c0
  replace qA1 := XA.c1
  replace qA2 := XA.lt
  replace qB0 := XB.c0
  replace qB1 := XB.c1
  replace qB2 := XB.lt
  replace qC0 := XC.c0
  replace qC1 := XC.c1
  replace qC2 := XC.lt
  replace qD0 := XD.c0
  replace qD1 := XD.c1
  replace qD2 := XD.lt
  replace qE0 := XE.c0
  replace qE1 := XE.c1
  replace qE2 := XE.lt
  clear hgp6 kAp6 mAp6 jAp6 kBp6 mBp6 jBp6 kCp6 mCp6 jCp6 hop6 hnp6 hsp6 hkp6 hap6 HIp6 hgq6 kAq6 mAq6 jAq6 kBq6 mBq6 jBq6 kCq6 mCq6 jCq6 hoq6 hnq6 hsq6 hkq6 haq6 HIq6 hgr6 kAr6 mAr6 jAr6 kBr6 mBr6 jBr6 kCr6 mCr6 jCr6 hor6 hnr6 hsr6 hkr6 har6 HIr6 hgt6 kAt6 mAt6 jAt6 kBt6 mBt6 jBt6 kCt6 mCt6 jCt6 hot6 hnt6 hst6 hkt6 hat6 HIt6 hgu6 kAu6 mAu6 jAu6 kBu6 mBu6 jBu6 kCu6 mCu6 jCu6
  go_wp2
  go_region_held3 (fun w' => w'.cell? ⟨w.heap.size, 0, none⟩ = some (.bool s1) ∧ w'.cell? ⟨w.heap.size, 1, none⟩ = some (.slice a1 n1 c1) ∧ w'.cell? ⟨(w.heap.size + 1), 0, none⟩ = some (.bool s2) ∧ w'.cell? ⟨(w.heap.size + 1), 1, none⟩ = some (.slice a2 n2 c2) ∧ w'.cell? ⟨(w.heap.size + 1 + 1), 0, none⟩ = some (.bool s3) ∧ w'.cell? ⟨(w.heap.size + 1 + 1), 1, none⟩ = some (.slice a3 n3 c3) ∧ w'.cell? ⟨wE.heap.size, 0, none⟩ = some (.bool sE) ∧ w'.cell? ⟨wE.heap.size, 1, none⟩ = some (.slice aE lE.length lE.length)) (go_keep) (first
    | (go_at_call 20; have hgd := hgt7; clear hgd; refine (cmp_raw sp7 st7 ap7 at7 lp7.length lp7.length lt7.length lt7.length lp7 lt7 _ (by exact hop7.sl.grown (by repeat (first | exact gb_refl _ _ | apply gb_drew | apply gb_alloc | (refine gb_then ?_ (by assumption) (by simp))))) (by exact hot7.sl.grown (by repeat (first | exact gb_refl _ _ | apply gb_drew | apply gb_alloc | (refine gb_then ?_ (by assumption) (by simp)))))).mono ?_; rintro e wu7 ⟨rfl, hgu7⟩; obtain ⟨kAu7, mAu7, jAu7⟩ := box_kept w.heap.size hgu7 (by first | (simp; done) | (simp; omega) | omega); obtain ⟨kBu7, mBu7, jBu7⟩ := box_kept (w.heap.size + 1) hgu7 (by first | (simp; done) | (simp; omega) | omega); obtain ⟨kCu7, mCu7, jCu7⟩ := box_kept (w.heap.size + 1 + 1) hgu7 (by first | (simp; done) | (simp; omega) | omega); obtain ⟨kEu7, mEu7, jEu7⟩ := box_kept wE.heap.size hgu7 (by first | (simp; done) | (simp; omega) | omega))
    | (go_at_call 23; have hgd := hgr7; clear hgd; refine (add_raw sq7 sr7 aq7 ar7 lq7.length lq7.length lr7.length lr7.length lq7 lr7 _ (by exact hoq7.sl.grown (by repeat (first | exact gb_refl _ _ | apply gb_drew | apply gb_alloc | (refine gb_then ?_ (by assumption) (by simp))))) (by exact hor7.sl.grown (by repeat (first | exact gb_refl _ _ | apply gb_drew | apply gb_alloc | (refine gb_then ?_ (by assumption) (by simp))))) (by omega) (by omega)).mono ?_; rintro e wt7 ⟨st7, at7, lt7, rfl, hot7, hnt7, hst7, hit7, hkt7, hat7, hgt7⟩; have HIt7 := hid hit7; clear hit7; obtain ⟨kAt7, mAt7, jAt7⟩ := box_kept w.heap.size hgt7 (by first | (simp; done) | (simp; omega) | omega); obtain ⟨kBt7, mBt7, jBt7⟩ := box_kept (w.heap.size + 1) hgt7 (by first | (simp; done) | (simp; omega) | omega); obtain ⟨kCt7, mCt7, jCt7⟩ := box_kept (w.heap.size + 1 + 1) hgt7 (by first | (simp; done) | (simp; omega) | omega); obtain ⟨kEt7, mEt7, jEt7⟩ := box_kept wE.heap.size hgt7 (by first | (simp; done) | (simp; omega) | omega))
    | (go_at_call 25; have hgd := hgq7; clear hgd; refine (mul_raw s1 s3 a1 a3 n1 c1 n3 c3 x1 x3 _ (by exact SA.grown (by repeat (first | exact gb_refl _ _ | apply gb_drew | apply gb_alloc | (refine gb_then ?_ (by assumption) (by simp))))) (by exact SC.grown (by repeat (first | exact gb_refl _ _ | apply gb_drew | apply gb_alloc | (refine gb_then ?_ (by assumption) (by simp))))) (by omega)).mono ?_; rintro e wr7 ⟨sr7, ar7, lr7, rfl, hor7, hnr7, hsr7, hir7, hkr7, har7, hgr7⟩; have HIr7 := hid hir7; clear hir7; obtain ⟨kAr7, mAr7, jAr7⟩ := box_kept w.heap.size hgr7 (by first | (simp; done) | (simp; omega) | omega); obtain ⟨kBr7, mBr7, jBr7⟩ := box_kept (w.heap.size + 1) hgr7 (by first | (simp; done) | (simp; omega) | omega); obtain ⟨kCr7, mCr7, jCr7⟩ := box_kept (w.heap.size + 1 + 1) hgr7 (by first | (simp; done) | (simp; omega) | omega); obtain ⟨kEr7, mEr7, jEr7⟩ := box_kept wE.heap.size hgr7 (by first | (simp; done) | (simp; omega) | omega))
    | (go_at_call 25; have hgd := hgp7; clear hgd; refine (mul_raw s1 s2 a1 a2 n1 c1 n2 c2 x1 x2 _ (by exact SA.grown (by repeat (first | exact gb_refl _ _ | apply gb_drew | apply gb_alloc | (refine gb_then ?_ (by assumption) (by simp))))) (by exact SB.grown (by repeat (first | exact gb_refl _ _ | apply gb_drew | apply gb_alloc | (refine gb_then ?_ (by assumption) (by simp))))) (by omega)).mono ?_; rintro e wq7 ⟨sq7, aq7, lq7, rfl, hoq7, hnq7, hsq7, hiq7, hkq7, haq7, hgq7⟩; have HIq7 := hid hiq7; clear hiq7; obtain ⟨kAq7, mAq7, jAq7⟩ := box_kept w.heap.size hgq7 (by first | (simp; done) | (simp; omega) | omega); obtain ⟨kBq7, mBq7, jBq7⟩ := box_kept (w.heap.size + 1) hgq7 (by first | (simp; done) | (simp; omega) | omega); obtain ⟨kCq7, mCq7, jCq7⟩ := box_kept (w.heap.size + 1 + 1) hgq7 (by first | (simp; done) | (simp; omega) | omega); obtain ⟨kEq7, mEq7, jEq7⟩ := box_kept wE.heap.size hgq7 (by first | (simp; done) | (simp; omega) | omega))
    | (go_at_call 25; refine (mul_raw s1 sE a1 aE n1 c1 lE.length lE.length x1 lE _ (by exact SA.grown (by repeat (first | exact gb_refl _ _ | apply gb_drew | apply gb_alloc | (refine gb_then ?_ (by assumption) (by simp))))) (by exact SE.grown (by repeat (first | exact gb_refl _ _ | apply gb_drew | apply gb_alloc | (refine gb_then ?_ (by assumption) (by simp))))) (by omega)).mono ?_; rintro e wp7 ⟨sp7, ap7, lp7, rfl, hop7, hnp7, hsp7, hip7, hkp7, hap7, hgp7⟩; have HIp7 := hid hip7; clear hip7; obtain ⟨kAp7, mAp7, jAp7⟩ := box_kept w.heap.size hgp7 (by first | (simp; done) | (simp; omega) | omega); obtain ⟨kBp7, mBp7, jBp7⟩ := box_kept (w.heap.size + 1) hgp7 (by first | (simp; done) | (simp; omega) | omega); obtain ⟨kCp7, mCp7, jCp7⟩ := box_kept (w.heap.size + 1 + 1) hgp7 (by first | (simp; done) | (simp; omega) | omega); obtain ⟨kEp7, mEp7, jEp7⟩ := box_kept wE.heap.size hgp7 (by first | (simp; done) | (simp; omega) | omega)))
  have F7 : (sgn (iv sp7 lp7 - iv st7 lt7) == 0) = true := by
    rw [sgn_zero, decide_eq_true_eq]
    rw [HIp7.out, HIt7.out, HIq7.out, HIr7.out, HIE.out, Int.mul_add]; omega
  replace XA : Bx wu7 w.heap.size (.bool s1) (.slice a1 n1 c1) := XA.kept (by repeat (first | exact gb_refl _ _ | apply gb_drew | apply gb_alloc | (refine gb_then ?_ (by assumption) (by simp)))) (by simp)
  replace SA : SL wu7 a1 n1 c1 x1 := SA.grown (by repeat (first | exact gb_refl _ _ | apply gb_drew | apply gb_alloc | (refine gb_then ?_ (by assumption) (by simp))))
  replace XB : Bx wu7 (w.heap.size + 1) (.bool s2) (.slice a2 n2 c2) := XB.kept (by repeat (first | exact gb_refl _ _ | apply gb_drew | apply gb_alloc | (refine gb_then ?_ (by assumption) (by simp)))) (by simp)
  replace SB : SL wu7 a2 n2 c2 x2 := SB.grown (by repeat (first | exact gb_refl _ _ | apply gb_drew | apply gb_alloc | (refine gb_then ?_ (by assumption) (by simp))))
  replace XC : Bx wu7 (w.heap.size + 1 + 1) (.bool s3) (.slice a3 n3 c3) := XC.kept (by repeat (first | exact gb_refl _ _ | apply gb_drew | apply gb_alloc | (refine gb_then ?_ (by assumption) (by simp)))) (by simp)
  replace SC : SL wu7 a3 n3 c3 x3 := SC.grown (by repeat (first | exact gb_refl _ _ | apply gb_drew | apply gb_alloc | (refine gb_then ?_ (by assumption) (by simp))))
  replace XD : Bx wu7 wD.heap.size (.bool sD) (.slice aD lD.length lD.length) := XD.kept (by repeat (first | exact gb_refl _ _ | apply gb_drew | apply gb_alloc | (refine gb_then ?_ (by assumption) (by simp)))) (by simp)
  replace SD : SL wu7 aD lD.length lD.length lD := SD.grown (by repeat (first | exact gb_refl _ _ | apply gb_drew | apply gb_alloc | (refine gb_then ?_ (by assumption) (by simp))))
  replace XE : Bx wu7 wE.heap.size (.bool sE) (.slice aE lE.length lE.length) := XE.kept (by repeat (first | exact gb_refl _ _ | apply gb_drew | apply gb_alloc | (refine gb_then ?_ (by assumption) (by simp)))) (by simp)
  replace SE : SL wu7 aE lE.length lE.length lE := SE.grown (by repeat (first | exact gb_refl _ _ | apply gb_drew | apply gb_alloc | (refine gb_then ?_ (by assumption) (by simp))))
  replace G : w.grownBy wu7 none := (by repeat (first | exact gb_refl _ _ | apply gb_drew | apply gb_alloc | (refine gb_then ?_ (by assumption) (by simp))))
  replace qA0 := XA.c0
  replace qA1 := XA.c1
  replace qA2 := XA.lt
  replace qB0 := XB.c0
  replace qB1 := XB.c1
  replace qB2 := XB.lt
  replace qC0 := XC.c0
  replace qC1 := XC.c1
  replace qC2 := XC.lt
  replace qD0 := XD.c0
  replace qD1 := XD.c1
  replace qD2 := XD.lt
  replace qE0 := XE.c0
  replace qE1 := XE.c1
  replace qE2 := XE.lt
  clear hgp7 kAp7 mAp7 jAp7 kBp7 mBp7 jBp7 kCp7 mCp7 jCp7 kEp7 mEp7 jEp7 hop7 hnp7 hsp7 hkp7 hap7 HIp7 hgq7 kAq7 mAq7 jAq7 kBq7 mBq7 jBq7 kCq7 mCq7 jCq7 kEq7 mEq7 jEq7 hoq7 hnq7 hsq7 hkq7 haq7 HIq7 hgr7 kAr7 mAr7 jAr7 kBr7 mBr7 jBr7 kCr7 mCr7 jCr7 kEr7 mEr7 jEr7 hor7 hnr7 hsr7 hkr7 har7 HIr7 hgt7 kAt7 mAt7 jAt7 kBt7 mBt7 jBt7 kCt7 mCt7 jCt7 kEt7 mEt7 jEt7 hot7 hnt7 hst7 hkt7 hat7 HIt7 hgu7 kAu7 mAu7 jAu7 kBu7 mBu7 jBu7 kCu7 mCu7 jCu7 kEu7 mEu7 jEu7
  go_wp2
  go_region_held3 (fun w' => w'.cell? ⟨w.heap.size, 0, none⟩ = some (.bool s1) ∧ w'.cell? ⟨w.heap.size, 1, none⟩ = some (.slice a1 n1 c1) ∧ w'.cell? ⟨(w.heap.size + 1), 0, none⟩ = some (.bool s2) ∧ w'.cell? ⟨(w.heap.size + 1), 1, none⟩ = some (.slice a2 n2 c2) ∧ w'.cell? ⟨wD.heap.size, 0, none⟩ = some (.bool sD) ∧ w'.cell? ⟨wD.heap.size, 1, none⟩ = some (.slice aD lD.length lD.length)) (go_keep) (first
    | (go_at_call 20; have hgd := hgp8; clear hgd; refine (cmp_raw sp8 s1 ap8 a1 lp8.length lp8.length n1 c1 lp8 x1 _ (by exact hop8.sl.grown (by repeat (first | exact gb_refl _ _ | apply gb_drew | apply gb_alloc | (refine gb_then ?_ (by assumption) (by simp))))) (by exact SA.grown (by repeat (first | exact gb_refl _ _ | apply gb_drew | apply gb_alloc | (refine gb_then ?_ (by assumption) (by simp)))))).mono ?_; rintro e wr8 ⟨rfl, hgr8⟩; obtain ⟨kAr8, mAr8, jAr8⟩ := box_kept w.heap.size hgr8 (by first | (simp; done) | (simp; omega) | omega); obtain ⟨kBr8, mBr8, jBr8⟩ := box_kept (w.heap.size + 1) hgr8 (by first | (simp; done) | (simp; omega) | omega); obtain ⟨kDr8, mDr8, jDr8⟩ := box_kept wD.heap.size hgr8 (by first | (simp; done) | (simp; omega) | omega))
    | (go_at_call 24; refine (sub_raw sD s2 aD a2 lD.length lD.length n2 c2 lD x2 _ (by exact SD.grown (by repeat (first | exact gb_refl _ _ | apply gb_drew | apply gb_alloc | (refine gb_then ?_ (by assumption) (by simp))))) (by exact SB.grown (by repeat (first | exact gb_refl _ _ | apply gb_drew | apply gb_alloc | (refine gb_then ?_ (by assumption) (by simp))))) (by omega) (by omega)).mono ?_; rintro e wp8 ⟨sp8, ap8, lp8, rfl, hop8, hnp8, hsp8, hip8, hkp8, hap8, hgp8⟩; have HIp8 := hid hip8; clear hip8; obtain ⟨kAp8, mAp8, jAp8⟩ := box_kept w.heap.size hgp8 (by first | (simp; done) | (simp; omega) | omega); obtain ⟨kBp8, mBp8, jBp8⟩ := box_kept (w.heap.size + 1) hgp8 (by first | (simp; done) | (simp; omega) | omega); obtain ⟨kDp8, mDp8, jDp8⟩ := box_kept wD.heap.size hgp8 (by first | (simp; done) | (simp; omega) | omega)))
  have F8 : (sgn (iv sp8 lp8 - iv s1 x1) == 0) = true := by
    rw [sgn_zero, decide_eq_true_eq]
    rw [HIp8.out, HID.out]; omega
  replace XA : Bx wr8 w.heap.size (.bool s1) (.slice a1 n1 c1) := XA.kept (by repeat (first | exact gb_refl _ _ | apply gb_drew | apply gb_alloc | (refine gb_then ?_ (by assumption) (by simp)))) (by simp)
  replace SA : SL wr8 a1 n1 c1 x1 := SA.grown (by repeat (first | exact gb_refl _ _ | apply gb_drew | apply gb_alloc | (refine gb_then ?_ (by assumption) (by simp))))
  replace XB : Bx wr8 (w.heap.size + 1) (.bool s2) (.slice a2 n2 c2) := XB.kept (by repeat (first | exact gb_refl _ _ | apply gb_drew | apply gb_alloc | (refine gb_then ?_ (by assumption) (by simp)))) (by simp)
  replace SB : SL wr8 a2 n2 c2 x2 := SB.grown (by repeat (first | exact gb_refl _ _ | apply gb_drew | apply gb_alloc | (refine gb_then ?_ (by assumption) (by simp))))
  replace XC : Bx wr8 (w.heap.size + 1 + 1) (.bool s3) (.slice a3 n3 c3) := XC.kept (by repeat (first | exact gb_refl _ _ | apply gb_drew | apply gb_alloc | (refine gb_then ?_ (by assumption) (by simp)))) (by simp)
  replace SC : SL wr8 a3 n3 c3 x3 := SC.grown (by repeat (first | exact gb_refl _ _ | apply gb_drew | apply gb_alloc | (refine gb_then ?_ (by assumption) (by simp))))
  replace XD : Bx wr8 wD.heap.size (.bool sD) (.slice aD lD.length lD.length) := XD.kept (by repeat (first | exact gb_refl _ _ | apply gb_drew | apply gb_alloc | (refine gb_then ?_ (by assumption) (by simp)))) (by simp)
  replace SD : SL wr8 aD lD.length lD.length lD := SD.grown (by repeat (first | exact gb_refl _ _ | apply gb_drew | apply gb_alloc | (refine gb_then ?_ (by assumption) (by simp))))
  replace XE : Bx wr8 wE.heap.size (.bool sE) (.slice aE lE.length lE.length) := XE.kept (by repeat (first | exact gb_refl _ _ | apply gb_drew | apply gb_alloc | (refine gb_then ?_ (by assumption) (by simp)))) (by simp)
  replace SE : SL wr8 aE lE.length lE.length lE := SE.grown (by repeat (first | exact gb_refl _ _ | apply gb_drew | apply gb_alloc | (refine gb_then ?_ (by assumption) (by simp))))
  replace G : w.grownBy wr8 none := (by repeat (first | exact gb_refl _ _ | apply gb_drew | apply gb_alloc | (refine gb_then ?_ (by assumption) (by simp))))
  replace qA0 := XA.c0
  replace qA1 := XA.c1
  replace qA2 := XA.lt
  replace qB0 := XB.c0
  replace qB1 := XB.c1
  replace qB2 := XB.lt
  replace qC0 := XC.c0
  replace qC1 := XC.c1
  replace qC2 := XC.lt
  replace qD0 := XD.c0
  replace qD1 := XD.c1
  replace qD2 := XD.lt
  replace qE0 := XE.c0
  replace qE1 := XE.c1
  replace qE2 := XE.lt
  clear hgp8 kAp8 mAp8 jAp8 kBp8 mBp8 jBp8 kDp8 mDp8 jDp8 hop8 hnp8 hsp8 hkp8 hap8 HIp8 hgr8 kAr8 mAr8 jAr8 kBr8 mBr8 jBr8 kDr8 mDr8 jDr8
  go_wp2
  go_region_held3 (fun w' => w'.cell? ⟨w.heap.size, 0, none⟩ = some (.bool s1) ∧ w'.cell? ⟨w.heap.size, 1, none⟩ = some (.slice a1 n1 c1) ∧ w'.cell? ⟨(w.heap.size + 1), 0, none⟩ = some (.bool s2) ∧ w'.cell? ⟨(w.heap.size + 1), 1, none⟩ = some (.slice a2 n2 c2)) (go_keep) (first
    | (go_at_call 20; have hgd := hgq9; clear hgd; refine (cmp_raw s1 s2 a1 a2 n1 c1 n2 c2 x1 x2 _ (by exact SA.grown (by repeat (first | exact gb_refl _ _ | apply gb_drew | apply gb_alloc | (refine gb_then ?_ (by assumption) (by simp))))) (by exact SB.grown (by repeat (first | exact gb_refl _ _ | apply gb_drew | apply gb_alloc | (refine gb_then ?_ (by assumption) (by simp)))))).mono ?_; rintro e wr9 ⟨rfl, hgr9⟩; obtain ⟨kAr9, mAr9, jAr9⟩ := box_kept w.heap.size hgr9 (by first | (simp; done) | (simp; omega) | omega); obtain ⟨kBr9, mBr9, jBr9⟩ := box_kept (w.heap.size + 1) hgr9 (by first | (simp; done) | (simp; omega) | omega))
    | (go_at_call 19; have hgd := hgp9; clear hgd; refine (sign_raw sp9 ap9 lp9.length lp9.length lp9 _ (by exact hop9.sl.grown (by repeat (first | exact gb_refl _ _ | apply gb_drew | apply gb_alloc | (refine gb_then ?_ (by assumption) (by simp)))))).mono ?_; rintro e wq9 ⟨rfl, hgq9⟩; obtain ⟨kAq9, mAq9, jAq9⟩ := box_kept w.heap.size hgq9 (by first | (simp; done) | (simp; omega) | omega); obtain ⟨kBq9, mBq9, jBq9⟩ := box_kept (w.heap.size + 1) hgq9 (by first | (simp; done) | (simp; omega) | omega))
    | (go_at_call 24; refine (sub_raw s1 s2 a1 a2 n1 c1 n2 c2 x1 x2 _ (by exact SA.grown (by repeat (first | exact gb_refl _ _ | apply gb_drew | apply gb_alloc | (refine gb_then ?_ (by assumption) (by simp))))) (by exact SB.grown (by repeat (first | exact gb_refl _ _ | apply gb_drew | apply gb_alloc | (refine gb_then ?_ (by assumption) (by simp))))) (by omega) (by omega)).mono ?_; rintro e wp9 ⟨sp9, ap9, lp9, rfl, hop9, hnp9, hsp9, hip9, hkp9, hap9, hgp9⟩; have HIp9 := hid hip9; clear hip9; obtain ⟨kAp9, mAp9, jAp9⟩ := box_kept w.heap.size hgp9 (by first | (simp; done) | (simp; omega) | omega); obtain ⟨kBp9, mBp9, jBp9⟩ := box_kept (w.heap.size + 1) hgp9 (by first | (simp; done) | (simp; omega) | omega)))
  have F9 : (wrap64 (sgn (iv sp9 lp9) - sgn (iv s1 x1 - iv s2 x2)) == 0) = true := by
    rw [HIp9.out, Int.sub_self, IntWalk.wrap64_in 0 ⟨by omega, by omega⟩]; rfl
  replace XA : Bx wr9 w.heap.size (.bool s1) (.slice a1 n1 c1) := XA.kept (by repeat (first | exact gb_refl _ _ | apply gb_drew | apply gb_alloc | (refine gb_then ?_ (by assumption) (by simp)))) (by simp)
  replace SA : SL wr9 a1 n1 c1 x1 := SA.grown (by repeat (first | exact gb_refl _ _ | apply gb_drew | apply gb_alloc | (refine gb_then ?_ (by assumption) (by simp))))
  replace XB : Bx wr9 (w.heap.size + 1) (.bool s2) (.slice a2 n2 c2) := XB.kept (by repeat (first | exact gb_refl _ _ | apply gb_drew | apply gb_alloc | (refine gb_then ?_ (by assumption) (by simp)))) (by simp)
  replace SB : SL wr9 a2 n2 c2 x2 := SB.grown (by repeat (first | exact gb_refl _ _ | apply gb_drew | apply gb_alloc | (refine gb_then ?_ (by assumption) (by simp))))
  replace XC : Bx wr9 (w.heap.size + 1 + 1) (.bool s3) (.slice a3 n3 c3) := XC.kept (by repeat (first | exact gb_refl _ _ | apply gb_drew | apply gb_alloc | (refine gb_then ?_ (by assumption) (by simp)))) (by simp)
  replace SC : SL wr9 a3 n3 c3 x3 := SC.grown (by repeat (first | exact gb_refl _ _ | apply gb_drew | apply gb_alloc | (refine gb_then ?_ (by assumption) (by simp))))
  replace XD : Bx wr9 wD.heap.size (.bool sD) (.slice aD lD.length lD.length) := XD.kept (by repeat (first | exact gb_refl _ _ | apply gb_drew | apply gb_alloc | (refine gb_then ?_ (by assumption) (by simp)))) (by simp)
  replace SD : SL wr9 aD lD.length lD.length lD := SD.grown (by repeat (first | exact gb_refl _ _ | apply gb_drew | apply gb_alloc | (refine gb_then ?_ (by assumption) (by simp))))
  replace XE : Bx wr9 wE.heap.size (.bool sE) (.slice aE lE.length lE.length) := XE.kept (by repeat (first | exact gb_refl _ _ | apply gb_drew | apply gb_alloc | (refine gb_then ?_ (by assumption) (by simp)))) (by simp)
  replace SE : SL wr9 aE lE.length lE.length lE := SE.grown (by repeat (first | exact gb_refl _ _ | apply gb_drew | apply gb_alloc | (refine gb_then ?_ (by assumption) (by simp))))
  replace G : w.grownBy wr9 none := (by repeat (first | exact gb_refl _ _ | apply gb_drew | apply gb_alloc | (refine gb_then ?_ (by assumption) (by simp))))
  replace qA0 := XA.c0
  replace qA1 := XA.c1
  replace qA2 := XA.lt
  replace qB0 := XB.c0
  replace qB1 := XB.c1
  replace qB2 := XB.lt
  replace qC0 := XC.c0
  replace qC1 := XC.c1
  replace qC2 := XC.lt
  replace qD0 := XD.c0
  replace qD1 := XD.c1
  replace qD2 := XD.lt
  replace qE0 := XE.c0
  replace qE1 := XE.c1
  replace qE2 := XE.lt
  clear hgp9 kAp9 mAp9 jAp9 kBp9 mBp9 jBp9 hop9 hnp9 hsp9 hkp9 hap9 HIp9 hgq9 kAq9 mAq9 jAq9 kBq9 mBq9 jBq9 hgr9 kAr9 mAr9 jAr9 kBr9 mBr9 jBr9
  go_wp2
  go_region_held3 (fun w' => w'.cell? ⟨w.heap.size, 0, none⟩ = some (.bool s1) ∧ w'.cell? ⟨w.heap.size, 1, none⟩ = some (.slice a1 n1 c1)) (go_keep) (first
    | (go_at_call 20; have hgd := hgq10; clear hgd; refine (cmp_raw sq10 s1 aq10 a1 lq10.length lq10.length n1 c1 lq10 x1 _ (by exact hoq10.sl.grown (by repeat (first | exact gb_refl _ _ | apply gb_drew | apply gb_alloc | (refine gb_then ?_ (by assumption) (by simp))))) (by exact SA.grown (by repeat (first | exact gb_refl _ _ | apply gb_drew | apply gb_alloc | (refine gb_then ?_ (by assumption) (by simp)))))).mono ?_; rintro e wr10 ⟨rfl, hgr10⟩; obtain ⟨kAr10, mAr10, jAr10⟩ := box_kept w.heap.size hgr10 (by first | (simp; done) | (simp; omega) | omega))
    | (go_at_call 21; have hgd := hgp10; clear hgd; refine (neg_raw sp10 ap10 lp10.length lp10.length lp10 _ (by exact hop10.sl.grown (by repeat (first | exact gb_refl _ _ | apply gb_drew | apply gb_alloc | (refine gb_then ?_ (by assumption) (by simp)))))).mono ?_; rintro e wq10 ⟨sq10, aq10, lq10, rfl, hoq10, hnq10, hsq10, hiq10, hkq10, haq10, hgq10⟩; have HIq10 := hid hiq10; clear hiq10; obtain ⟨kAq10, mAq10, jAq10⟩ := box_kept w.heap.size hgq10 (by first | (simp; done) | (simp; omega) | omega))
    | (go_at_call 21; refine (neg_raw s1 a1 n1 c1 x1 _ (by exact SA.grown (by repeat (first | exact gb_refl _ _ | apply gb_drew | apply gb_alloc | (refine gb_then ?_ (by assumption) (by simp)))))).mono ?_; rintro e wp10 ⟨sp10, ap10, lp10, rfl, hop10, hnp10, hsp10, hip10, hkp10, hap10, hgp10⟩; have HIp10 := hid hip10; clear hip10; obtain ⟨kAp10, mAp10, jAp10⟩ := box_kept w.heap.size hgp10 (by first | (simp; done) | (simp; omega) | omega)))
  have F10 : (sgn (iv sq10 lq10 - iv s1 x1) == 0) = true := by
    rw [sgn_zero, decide_eq_true_eq]
    rw [HIq10.out, HIp10.out]; omega
  replace XA : Bx wr10 w.heap.size (.bool s1) (.slice a1 n1 c1) := XA.kept (by repeat (first | exact gb_refl _ _ | apply gb_drew | apply gb_alloc | (refine gb_then ?_ (by assumption) (by simp)))) (by simp)
  replace SA : SL wr10 a1 n1 c1 x1 := SA.grown (by repeat (first | exact gb_refl _ _ | apply gb_drew | apply gb_alloc | (refine gb_then ?_ (by assumption) (by simp))))
  replace XB : Bx wr10 (w.heap.size + 1) (.bool s2) (.slice a2 n2 c2) := XB.kept (by repeat (first | exact gb_refl _ _ | apply gb_drew | apply gb_alloc | (refine gb_then ?_ (by assumption) (by simp)))) (by simp)
  replace SB : SL wr10 a2 n2 c2 x2 := SB.grown (by repeat (first | exact gb_refl _ _ | apply gb_drew | apply gb_alloc | (refine gb_then ?_ (by assumption) (by simp))))
  replace XC : Bx wr10 (w.heap.size + 1 + 1) (.bool s3) (.slice a3 n3 c3) := XC.kept (by repeat (first | exact gb_refl _ _ | apply gb_drew | apply gb_alloc | (refine gb_then ?_ (by assumption) (by simp)))) (by simp)
  replace SC : SL wr10 a3 n3 c3 x3 := SC.grown (by repeat (first | exact gb_refl _ _ | apply gb_drew | apply gb_alloc | (refine gb_then ?_ (by assumption) (by simp))))
  replace XD : Bx wr10 wD.heap.size (.bool sD) (.slice aD lD.length lD.length) := XD.kept (by repeat (first | exact gb_refl _ _ | apply gb_drew | apply gb_alloc | (refine gb_then ?_ (by assumption) (by simp)))) (by simp)
  replace SD : SL wr10 aD lD.length lD.length lD := SD.grown (by repeat (first | exact gb_refl _ _ | apply gb_drew | apply gb_alloc | (refine gb_then ?_ (by assumption) (by simp))))
  replace XE : Bx wr10 wE.heap.size (.bool sE) (.slice aE lE.length lE.length) := XE.kept (by repeat (first | exact gb_refl _ _ | apply gb_drew | apply gb_alloc | (refine gb_then ?_ (by assumption) (by simp)))) (by simp)
  replace SE : SL wr10 aE lE.length lE.length lE := SE.grown (by repeat (first | exact gb_refl _ _ | apply gb_drew | apply gb_alloc | (refine gb_then ?_ (by assumption) (by simp))))
  replace G : w.grownBy wr10 none := (by repeat (first | exact gb_refl _ _ | apply gb_drew | apply gb_alloc | (refine gb_then ?_ (by assumption) (by simp))))
  replace qA0 := XA.c0
  replace qA1 := XA.c1
  replace qA2 := XA.lt
  replace qB0 := XB.c0
  replace qB1 := XB.c1
  replace qB2 := XB.lt
  replace qC0 := XC.c0
  replace qC1 := XC.c1
  replace qC2 := XC.lt
  replace qD0 := XD.c0
  replace qD1 := XD.c1
  replace qD2 := XD.lt
  replace qE0 := XE.c0
  replace qE1 := XE.c1
  replace qE2 := XE.lt
  clear hgp10 kAp10 mAp10 jAp10 hop10 hnp10 hsp10 hkp10 hap10 HIp10 hgq10 kAq10 mAq10 jAq10 hoq10 hnq10 hsq10 hkq10 haq10 HIq10 hgr10 kAr10 mAr10 jAr10
  go_wp2
  go_ret
  exact ⟨by first | rfl | simp, G⟩
end Go.Proofs.Ytonfnkchpicoiaa
