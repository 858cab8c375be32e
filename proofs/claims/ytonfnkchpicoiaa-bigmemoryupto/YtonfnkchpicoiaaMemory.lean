/-
  The walk of the law BigMemory: it answers true.
-/
import Derived.Test.YtonfnkchpicoiaaOver
namespace Go.Proofs.Ytonfnkchpicoiaa
set_option linter.unusedSimpArgs false
set_option linter.unusedVariables false
open Go.RowKit
attribute [local go_sem ↓] Go.wp_at_zero Go.wp_at_succ

theorem lent_sl {w : World} {g : Nat} {x : List Nat} (h : Row w g (x ++ [77, 78])) (hl : Lims x) (hn : x.length + 2 ≤ 35184372088832) : SL w (some ⟨g, 0, none⟩) x.length (x.length + 2) x :=
  (OW.of_row (B := 0) h (Nat.zero_le _) rfl (by omega) (by omega) (by omega) hl).sl
/-- the block of a slice that the call made is below the heap's end -/
theorem OW.block_lt {w : World} {B g off : Nat} {a : Option Addr} {n c : Nat} {l : List Nat} (h : OW w B a n c l) (hn : 0 < n) (e : a = some ⟨g, off, none⟩) : g < w.heap.size := by
  obtain ⟨g', off', L, ea, _, hr, _⟩ := h.own hn
  rw [ea] at e
  simp only [Option.some.injEq, Addr.mk.injEq] at e
  obtain ⟨rfl, _⟩ := e
  exact hr.lt
theorem Apart.off {a b : Option Addr} {n m g off : Nat} (h : Apart a n b m) (hn : 0 < n) (e : a = some ⟨g, off, none⟩) : Off b m g := by
  intro hm b' o' s' e'
  exact fun hg => h hn hm g off none b' o' s' e e' hg.symm

set_option maxHeartbeats 12800000 in
set_option maxRecDepth 100000 in
theorem memory_walk (s1 s2 : Bool) (a1 a2 : Option Addr) (c1 c2 : Nat) (x1 x2 : List Nat) (w : World) (SA : SL w a1 x1.length c1 x1) (SB : SL w a2 x2.length c2 x2) (h1 : x1.length ≤ 1048576) (h2 : x2.length ≤ 1048576) :
    Calls Try.prog 7 #[.agg #[.bool s1, .slice a1 x1.length c1], .agg #[.bool s2, .slice a2 x2.length c2]] w fun e w' => e = .returned (.bool true) ∧ w.grownBy w' none := by
  have LA := SA.lim
  have LB := SB.lim
  have b1 : x1.length + 2 ≤ 35184372088832 := by omega
  have b2 : x2.length + 2 ≤ 35184372088832 := by omega
  go_enter Try.func7, Try.ntmps7
  go_wp2_with fail
  refine (awake_raw _).mono ?_
  rintro e w1 ⟨rfl, hg1⟩
  obtain ⟨kA1, mA1, jA1⟩ := box_kept w.heap.size hg1 (by first | (simp; done) | (simp; omega) | omega)
  obtain ⟨kB1, mB1, jB1⟩ := box_kept (w.heap.size + 1) hg1 (by first | (simp; done) | (simp; omega) | omega)
  go_wp2_with fail
  refine (lent_raw s1 a1 x1.length c1 x1 _ (by exact SA.grown (by repeat (first | exact gb_refl _ _ | apply gb_drew | apply gb_alloc | (refine gb_then ?_ (by assumption) (by simp))))) b1).mono ?_
  rintro e wX ⟨gx, rfl, RX, hBx, hgX⟩
  obtain ⟨kAX, mAX, jAX⟩ := box_kept w.heap.size hgX (by first | (simp; done) | (simp; omega) | omega)
  obtain ⟨kBX, mBX, jBX⟩ := box_kept (w.heap.size + 1) hgX (by first | (simp; done) | (simp; omega) | omega)
  go_wp2_with fail
  refine (lent_raw s2 a2 x2.length c2 x2 _ (by exact SB.grown (by repeat (first | exact gb_refl _ _ | apply gb_drew | apply gb_alloc | (refine gb_then ?_ (by assumption) (by simp))))) b2).mono ?_
  rintro e wY ⟨gy, rfl, RY, hBy, hgY⟩
  have XA : Bx (wY.alloc (.cells #[.bool s2, .slice (some ⟨gy, 0, none⟩) x2.length (x2.length + 2)] 24)) w.heap.size (.bool s1) (.slice a1 x1.length c1) := (Bx.new w _ _ _ 24 rfl).kept (by repeat (first | exact gb_refl _ _ | apply gb_drew | apply gb_alloc | (refine gb_then ?_ (by assumption) (by simp)))) (by simp)
  have XB : Bx (wY.alloc (.cells #[.bool s2, .slice (some ⟨gy, 0, none⟩) x2.length (x2.length + 2)] 24)) (w.heap.size + 1) (.bool s2) (.slice a2 x2.length c2) := (Bx.new (w.alloc (.cells #[.bool s1, .slice a1 x1.length c1] 24)) _ _ _ 24 (by simp)).kept (by repeat (first | exact gb_refl _ _ | apply gb_drew | apply gb_alloc | (refine gb_then ?_ (by assumption) (by simp)))) (by simp)
  have XX : Bx (wY.alloc (.cells #[.bool s2, .slice (some ⟨gy, 0, none⟩) x2.length (x2.length + 2)] 24)) wX.heap.size (.bool s1) (.slice (some ⟨gx, 0, none⟩) x1.length (x1.length + 2)) := (Bx.new wX _ _ _ 24 rfl).kept (by repeat (first | exact gb_refl _ _ | apply gb_drew | apply gb_alloc | (refine gb_then ?_ (by assumption) (by simp)))) (by simp)
  have XY : Bx (wY.alloc (.cells #[.bool s2, .slice (some ⟨gy, 0, none⟩) x2.length (x2.length + 2)] 24)) wY.heap.size (.bool s2) (.slice (some ⟨gy, 0, none⟩) x2.length (x2.length + 2)) := Bx.new wY _ _ _ 24 rfl
  replace RX : Row (wY.alloc (.cells #[.bool s2, .slice (some ⟨gy, 0, none⟩) x2.length (x2.length + 2)] 24)) gx (x1 ++ [77, 78]) := RX.kept (show wX.grownBy (wY.alloc (.cells #[.bool s2, .slice (some ⟨gy, 0, none⟩) x2.length (x2.length + 2)] 24)) none from (by repeat (first | exact gb_refl _ _ | apply gb_drew | apply gb_alloc | (refine gb_then ?_ (by assumption) (by simp))))) (by simp)
  replace RY : Row (wY.alloc (.cells #[.bool s2, .slice (some ⟨gy, 0, none⟩) x2.length (x2.length + 2)] 24)) gy (x2 ++ [77, 78]) := RY.alloc _
  replace SA : SL (wY.alloc (.cells #[.bool s2, .slice (some ⟨gy, 0, none⟩) x2.length (x2.length + 2)] 24)) a1 x1.length c1 x1 := SA.grown (by repeat (first | exact gb_refl _ _ | apply gb_drew | apply gb_alloc | (refine gb_then ?_ (by assumption) (by simp))))
  replace SB : SL (wY.alloc (.cells #[.bool s2, .slice (some ⟨gy, 0, none⟩) x2.length (x2.length + 2)] 24)) a2 x2.length c2 x2 := SB.grown (by repeat (first | exact gb_refl _ _ | apply gb_drew | apply gb_alloc | (refine gb_then ?_ (by assumption) (by simp))))
  have G : w.grownBy (wY.alloc (.cells #[.bool s2, .slice (some ⟨gy, 0, none⟩) x2.length (x2.length + 2)] 24)) none := (by repeat (first | exact gb_refl _ _ | apply gb_drew | apply gb_alloc | (refine gb_then ?_ (by assumption) (by simp))))
  clear hg1 kA1 mA1 jA1 kB1 mB1 jB1 hgX kAX mAX jAX kBX mBX jBX hgY hBx hBy
  have qA0 := XA.c0
  have qA1 := XA.c1
  have qA2 := XA.lt
  have qB0 := XB.c0
  have qB1 := XB.c1
  have qB2 := XB.lt
  have qX0 := XX.c0
  have qX1 := XX.c1
  have qX2 := XX.lt
  have qY0 := XY.c0
  have qY1 := XY.c1
  have qY2 := XY.lt
  go_wp2_with fail
  generalize wY.alloc (.cells #[.bool s2, .slice (some ⟨gy, 0, none⟩) x2.length (x2.length + 2)] 24) = wF at *
  refine (norm_raw s1 (some ⟨gx, 0, none⟩) _ _ x1 _ (lent_sl RX LA b1)).mono ?_
  rintro e wa0 ⟨sa, aa, la, rfl, hoa, hna, hsa, hia, hka, haa, hga⟩
  clear hna hsa hia hka haa
  go_wp2_with fail
  refine (over_new sa aa la hga hoa).mono ?_
  rintro e wb0 ⟨rfl, hgb⟩
  clear hga hoa
  replace XA := XA.kept hgb (by simp)
  replace XB := XB.kept hgb (by simp)
  replace XX := XX.kept hgb (by simp)
  replace XY := XY.kept hgb (by simp)
  replace RX := RX.kept hgb (by simp)
  replace RY := RY.kept hgb (by simp)
  replace SA := SA.grown hgb
  replace SB := SB.grown hgb
  replace G := gb_then G hgb (by simp)
  replace qA0 := XA.c0
  replace qA1 := XA.c1
  replace qA2 := XA.lt
  replace qB0 := XB.c0
  replace qB1 := XB.c1
  replace qB2 := XB.lt
  replace qX0 := XX.c0
  replace qX1 := XX.c1
  replace qX2 := XX.lt
  replace qY0 := XY.c0
  replace qY1 := XY.c1
  replace qY2 := XY.lt
  clear hgb
  go_wp2_with fail
  refine (neg_raw s1 (some ⟨gx, 0, none⟩) _ _ x1 _ (lent_sl RX LA b1)).mono ?_
  rintro e wa1 ⟨sa, aa, la, rfl, hoa, hna, hsa, hia, hka, haa, hga⟩
  clear hna hsa hia hka haa
  go_wp2_with fail
  refine (over_new sa aa la hga hoa).mono ?_
  rintro e wb1 ⟨rfl, hgb⟩
  clear hga hoa
  replace XA := XA.kept hgb (by simp)
  replace XB := XB.kept hgb (by simp)
  replace XX := XX.kept hgb (by simp)
  replace XY := XY.kept hgb (by simp)
  replace RX := RX.kept hgb (by simp)
  replace RY := RY.kept hgb (by simp)
  replace SA := SA.grown hgb
  replace SB := SB.grown hgb
  replace G := gb_then G hgb (by simp)
  replace qA0 := XA.c0
  replace qA1 := XA.c1
  replace qA2 := XA.lt
  replace qB0 := XB.c0
  replace qB1 := XB.c1
  replace qB2 := XB.lt
  replace qX0 := XX.c0
  replace qX1 := XX.c1
  replace qX2 := XX.lt
  replace qY0 := XY.c0
  replace qY1 := XY.c1
  replace qY2 := XY.lt
  clear hgb
  go_wp2_with fail
  refine (abs_raw s1 (some ⟨gx, 0, none⟩) _ _ x1 _ (lent_sl RX LA b1)).mono ?_
  rintro e wa2 ⟨sa, aa, la, rfl, hoa, hna, hsa, hia, hka, haa, hga⟩
  clear hna hsa hia hka haa
  go_wp2_with fail
  refine (over_new sa aa la hga hoa).mono ?_
  rintro e wb2 ⟨rfl, hgb⟩
  clear hga hoa
  replace XA := XA.kept hgb (by simp)
  replace XB := XB.kept hgb (by simp)
  replace XX := XX.kept hgb (by simp)
  replace XY := XY.kept hgb (by simp)
  replace RX := RX.kept hgb (by simp)
  replace RY := RY.kept hgb (by simp)
  replace SA := SA.grown hgb
  replace SB := SB.grown hgb
  replace G := gb_then G hgb (by simp)
  replace qA0 := XA.c0
  replace qA1 := XA.c1
  replace qA2 := XA.lt
  replace qB0 := XB.c0
  replace qB1 := XB.c1
  replace qB2 := XB.lt
  replace qX0 := XX.c0
  replace qX1 := XX.c1
  replace qX2 := XX.lt
  replace qY0 := XY.c0
  replace qY1 := XY.c1
  replace qY2 := XY.lt
  clear hgb
  go_wp2_with fail
  refine (add_raw s1 s2 (some ⟨gx, 0, none⟩) (some ⟨gy, 0, none⟩) _ _ _ _ x1 x2 _ (lent_sl RX LA b1) (lent_sl RY LB b2) (by omega) (by omega)).mono ?_
  rintro e wa3 ⟨sa, aa, la, rfl, hoa, hna, hsa, hia, hka, haa, hga⟩
  clear hna hsa hia hka haa
  go_wp2_with fail
  refine (over_new sa aa la hga hoa).mono ?_
  rintro e wb3 ⟨rfl, hgb⟩
  clear hga hoa
  replace XA := XA.kept hgb (by simp)
  replace XB := XB.kept hgb (by simp)
  replace XX := XX.kept hgb (by simp)
  replace XY := XY.kept hgb (by simp)
  replace RX := RX.kept hgb (by simp)
  replace RY := RY.kept hgb (by simp)
  replace SA := SA.grown hgb
  replace SB := SB.grown hgb
  replace G := gb_then G hgb (by simp)
  replace qA0 := XA.c0
  replace qA1 := XA.c1
  replace qA2 := XA.lt
  replace qB0 := XB.c0
  replace qB1 := XB.c1
  replace qB2 := XB.lt
  replace qX0 := XX.c0
  replace qX1 := XX.c1
  replace qX2 := XX.lt
  replace qY0 := XY.c0
  replace qY1 := XY.c1
  replace qY2 := XY.lt
  clear hgb
  go_wp2_with fail
  refine (sub_raw s1 s2 (some ⟨gx, 0, none⟩) (some ⟨gy, 0, none⟩) _ _ _ _ x1 x2 _ (lent_sl RX LA b1) (lent_sl RY LB b2) (by omega) (by omega)).mono ?_
  rintro e wa4 ⟨sa, aa, la, rfl, hoa, hna, hsa, hia, hka, haa, hga⟩
  clear hna hsa hia hka haa
  go_wp2_with fail
  refine (over_new sa aa la hga hoa).mono ?_
  rintro e wb4 ⟨rfl, hgb⟩
  clear hga hoa
  replace XA := XA.kept hgb (by simp)
  replace XB := XB.kept hgb (by simp)
  replace XX := XX.kept hgb (by simp)
  replace XY := XY.kept hgb (by simp)
  replace RX := RX.kept hgb (by simp)
  replace RY := RY.kept hgb (by simp)
  replace SA := SA.grown hgb
  replace SB := SB.grown hgb
  replace G := gb_then G hgb (by simp)
  replace qA0 := XA.c0
  replace qA1 := XA.c1
  replace qA2 := XA.lt
  replace qB0 := XB.c0
  replace qB1 := XB.c1
  replace qB2 := XB.lt
  replace qX0 := XX.c0
  replace qX1 := XX.c1
  replace qX2 := XX.lt
  replace qY0 := XY.c0
  replace qY1 := XY.c1
  replace qY2 := XY.lt
  clear hgb
  go_wp2_with fail
  refine (mul_raw s1 s2 (some ⟨gx, 0, none⟩) (some ⟨gy, 0, none⟩) _ _ _ _ x1 x2 _ (lent_sl RX LA b1) (lent_sl RY LB b2) (by omega)).mono ?_
  rintro e wa5 ⟨sa, aa, la, rfl, hoa, hna, hsa, hia, hka, haa, hga⟩
  clear hna hsa hia hka haa
  go_wp2_with fail
  refine (over_new sa aa la hga hoa).mono ?_
  rintro e wb5 ⟨rfl, hgb⟩
  clear hga hoa
  replace XA := XA.kept hgb (by simp)
  replace XB := XB.kept hgb (by simp)
  replace XX := XX.kept hgb (by simp)
  replace XY := XY.kept hgb (by simp)
  replace RX := RX.kept hgb (by simp)
  replace RY := RY.kept hgb (by simp)
  replace SA := SA.grown hgb
  replace SB := SB.grown hgb
  replace G := gb_then G hgb (by simp)
  replace qA0 := XA.c0
  replace qA1 := XA.c1
  replace qA2 := XA.lt
  replace qB0 := XB.c0
  replace qB1 := XB.c1
  replace qB2 := XB.lt
  replace qX0 := XX.c0
  replace qX1 := XX.c1
  replace qX2 := XX.lt
  replace qY0 := XY.c0
  replace qY1 := XY.c1
  replace qY2 := XY.lt
  clear hgb
  go_wp2_with fail
  refine (divmod_any s1 s2 (some ⟨gx, 0, none⟩) (some ⟨gy, 0, none⟩) _ _ _ _ x1 x2 _ (lent_sl RX LA b1) (lent_sl RY LB b2) (by omega)).mono ?_
  rintro e w2 ⟨sq, aq, lq, sr, ar, lr, rfl, hoq, hor, hap, nq, nr, hsq, hsr, hd2, hk1, hk2, hg2⟩
  have HD := hid hd2
  clear hd2
  go_wp2_with fail
  have SA5 := SA
  have SB5 := SB
  have G5 := G
  have rA5 := XA.lt
  have rB5 := XB.lt
  have rX5 := XX.lt
  have rY5 := XY.lt
  have rx5 := RX.lt
  have ry5 := RY.lt
  have hgQ : wb5.grownBy ((w2.alloc (.cells #[.bool sq, .slice aq lq.length lq.length] 24)).alloc (.cells #[.bool sr, .slice ar lr.length lr.length] 24)) none := (by repeat (first | exact gb_refl _ _ | apply gb_drew | apply gb_alloc | (refine gb_then ?_ (by assumption) (by simp))))
  have XR : Bx ((w2.alloc (.cells #[.bool sq, .slice aq lq.length lq.length] 24)).alloc (.cells #[.bool sr, .slice ar lr.length lr.length] 24)) (w2.heap.size + 1) (.bool sr) (.slice ar lr.length lr.length) := Bx.new _ _ _ _ 24 (by simp)
  have OQ : OW ((w2.alloc (.cells #[.bool sq, .slice aq lq.length lq.length] 24)).alloc (.cells #[.bool sr, .slice ar lr.length lr.length] 24)) wb5.heap.size aq lq.length lq.length lq := hoq.grown (by repeat (first | exact gb_refl _ _ | apply gb_drew | apply gb_alloc | (refine gb_then ?_ (by assumption) (by simp))))
  have OR : OW ((w2.alloc (.cells #[.bool sq, .slice aq lq.length lq.length] 24)).alloc (.cells #[.bool sr, .slice ar lr.length lr.length] 24)) wb5.heap.size ar lr.length lr.length lr := hor.grown (by repeat (first | exact gb_refl _ _ | apply gb_drew | apply gb_alloc | (refine gb_then ?_ (by assumption) (by simp))))
  refine (over_raw sq aq lq wb5.heap.size _ OQ).mono ?_
  rintro e w3 ⟨rfl, r3, hg3, hb3⟩
  have hne3 : r3 ≠ some (w2.heap.size + 1) := by
    intro e
    obtain ⟨hl, hB, off, ea⟩ := hb3 _ e
    have := hoq.block_lt hl ea
    omega
  replace XR := XR.kept hg3 hne3
  replace OR := OR.kept hg3 (fun g e => by obtain ⟨hl, hB, off, ea⟩ := hb3 g e; exact hap.off hl ea)
  have K3 : wb5.grownBy w3 none := gb_then hgQ hg3 (fun i e => (hb3 i e).2.1)
  have hz3 := hg3.size
  simp at hz3
  clear hg2 hgQ hg3 hb3 OQ hoq hor hap hne3
  replace XA := XA.kept K3 (by simp)
  replace XB := XB.kept K3 (by simp)
  replace XX := XX.kept K3 (by simp)
  replace XY := XY.kept K3 (by simp)
  replace RX := RX.kept K3 (by simp)
  replace RY := RY.kept K3 (by simp)
  replace SA := SA.grown K3
  replace SB := SB.grown K3
  replace G := gb_then G K3 (by simp)
  replace qA0 := XA.c0
  replace qA1 := XA.c1
  replace qA2 := XA.lt
  replace qB0 := XB.c0
  replace qB1 := XB.c1
  replace qB2 := XB.lt
  replace qX0 := XX.c0
  replace qX1 := XX.c1
  replace qX2 := XX.lt
  replace qY0 := XY.c0
  replace qY1 := XY.c1
  replace qY2 := XY.lt
  have qR0 := XR.c0
  have qR1 := XR.c1
  have qR2 := XR.lt
  go_wp2
  go_region_held3 (fun w' => w'.cell? ⟨w.heap.size, 0, none⟩ = some (.bool s1) ∧ w'.cell? ⟨w.heap.size, 1, none⟩ = some (.slice a1 x1.length c1) ∧ w'.cell? ⟨w.heap.size + 1, 0, none⟩ = some (.bool s2) ∧ w'.cell? ⟨w.heap.size + 1, 1, none⟩ = some (.slice a2 x2.length c2) ∧ w'.cell? ⟨w2.heap.size + 1, 0, none⟩ = some (.bool sr) ∧ w'.cell? ⟨w2.heap.size + 1, 1, none⟩ = some (.slice ar lr.length lr.length)) (go_keep) (first
    | (go_at_call 41; refine (rmod_raw s1 s2 a1 a2 _ _ _ _ x1 x2 _ (by exact SA.grown (by repeat (first | exact gb_refl _ _ | apply gb_drew | apply gb_alloc | (refine gb_then ?_ (by assumption) (by simp))))) (by exact SB.grown (by repeat (first | exact gb_refl _ _ | apply gb_drew | apply gb_alloc | (refine gb_then ?_ (by assumption) (by simp))))) (by omega) (by omega)).mono ?_; rintro e w4 ⟨sm, am, lm, rfl, hm4, hd4, hg4⟩; have HD4 := hid hd4; clear hd4; obtain ⟨kA4, mA4, jA4⟩ := box_kept w.heap.size hg4 (by first | (simp; done) | (simp; omega) | omega); obtain ⟨kB4, mB4, jB4⟩ := box_kept (w.heap.size + 1) hg4 (by first | (simp; done) | (simp; omega) | omega); obtain ⟨kX4, mX4, jX4⟩ := box_kept wX.heap.size hg4 (by first | (simp; done) | (simp; omega) | omega); obtain ⟨kY4, mY4, jY4⟩ := box_kept wY.heap.size hg4 (by first | (simp; done) | (simp; omega) | omega); obtain ⟨kR4, mR4, jR4⟩ := box_kept (w2.heap.size + 1) hg4 (by first | (simp; done) | (simp; omega) | omega))
    | (go_at_call 15; refine (is_true sr sm ar am _ _ _ _ lr lm _ (by exact OR.sl.grown (by repeat (first | exact gb_refl _ _ | apply gb_drew | apply gb_alloc | (refine gb_then ?_ (by assumption) (by simp))))) (by exact hm4.grown (by repeat (first | exact gb_refl _ _ | apply gb_drew | apply gb_alloc | (refine gb_then ?_ (by assumption) (by simp))))) (std_of nr hsr) (by obtain ⟨q4, hq4⟩ := HD4.out; exact (dd_unique HD.out hq4).2)).mono ?_; rintro e w5 ⟨rfl, hg5⟩; obtain ⟨kA5, mA5, jA5⟩ := box_kept w.heap.size hg5 (by first | (simp; done) | (simp; omega) | omega); obtain ⟨kB5, mB5, jB5⟩ := box_kept (w.heap.size + 1) hg5 (by first | (simp; done) | (simp; omega) | omega); obtain ⟨kX5, mX5, jX5⟩ := box_kept wX.heap.size hg5 (by first | (simp; done) | (simp; omega) | omega); obtain ⟨kY5, mY5, jY5⟩ := box_kept wY.heap.size hg5 (by first | (simp; done) | (simp; omega) | omega); obtain ⟨kR5, mR5, jR5⟩ := box_kept (w2.heap.size + 1) hg5 (by first | (simp; done) | (simp; omega) | omega)))
  have K5 : w3.grownBy w5 none := (by repeat (first | exact gb_refl _ _ | apply gb_drew | apply gb_alloc | (refine gb_then ?_ (by assumption) (by simp))))
  replace XR := XR.kept K5 (by simp)
  replace OR := OR.grown K5
  clear hg4 hg5 kA4 mA4 jA4 kA5 mA5 jA5 kB4 mB4 jB4 kB5 mB5 jB5 kX4 mX4 jX4 kX5 mX5 jX5 kY4 mY4 jY4 kY5 mY5 jY5 kR4 mR4 jR4 kR5 mR5 jR5
  replace XA := XA.kept K5 (by simp)
  replace XB := XB.kept K5 (by simp)
  replace XX := XX.kept K5 (by simp)
  replace XY := XY.kept K5 (by simp)
  replace RX := RX.kept K5 (by simp)
  replace RY := RY.kept K5 (by simp)
  replace SA := SA.grown K5
  replace SB := SB.grown K5
  replace G := gb_then G K5 (by simp)
  replace qA0 := XA.c0
  replace qA1 := XA.c1
  replace qA2 := XA.lt
  replace qB0 := XB.c0
  replace qB1 := XB.c1
  replace qB2 := XB.lt
  replace qX0 := XX.c0
  replace qX1 := XX.c1
  replace qX2 := XX.lt
  replace qY0 := XY.c0
  replace qY1 := XY.c1
  replace qY2 := XY.lt
  replace qR0 := XR.c0
  replace qR1 := XR.c1
  replace qR2 := XR.lt
  have hz5 := K5.size
  have hz35 : wb5.heap.size ≤ w3.heap.size := K3.size
  go_wp2_with fail
  refine (over_raw sr ar lr wb5.heap.size _ (by exact OR)).mono ?_
  rintro e w6 ⟨rfl, r6, hg6, hb6⟩
  have K6 : wb5.grownBy w6 none := gb_then (gb_then K3 K5 (by simp)) hg6 (fun i e => (hb6 i e).2.1)
  have hnew : ∀ g, r6 = some g → wb5.heap.size ≤ g := fun g e => (hb6 g e).2.1
  have hbA : r6 ≠ some w.heap.size := fun e => by have := hnew _ e; omega
  have hbB : r6 ≠ some (w.heap.size + 1) := fun e => by have := hnew _ e; omega
  have hbX : r6 ≠ some wX.heap.size := fun e => by have := hnew _ e; omega
  have hbY : r6 ≠ some wY.heap.size := fun e => by have := hnew _ e; omega
  have hbRX : r6 ≠ some gx := fun e => by have := hnew _ e; omega
  have hbRY : r6 ≠ some gy := fun e => by have := hnew _ e; omega
  replace XA := XA.kept hg6 hbA
  replace XB := XB.kept hg6 hbB
  replace XX := XX.kept hg6 hbX
  replace XY := XY.kept hg6 hbY
  replace RX := RX.kept hg6 hbRX
  replace RY := RY.kept hg6 hbRY
  replace SA := SA5.grown K6
  replace SB := SB5.grown K6
  replace G := gb_then G5 K6 (by simp)
  replace qA0 := XA.c0
  replace qA1 := XA.c1
  replace qA2 := XA.lt
  replace qB0 := XB.c0
  replace qB1 := XB.c1
  replace qB2 := XB.lt
  replace qX0 := XX.c0
  replace qX1 := XX.c1
  replace qX2 := XX.lt
  replace qY0 := XY.c0
  replace qY1 := XY.c1
  replace qY2 := XY.lt
  clear K3 K5 K6 hg6 hb6 hnew hbA hbB hbX hbY hbRX hbRY XR OR qR0 qR1 qR2
  go_wp2_with fail
  refine (of_raw 5 _ (by omega) (by omega)).mono ?_
  rintro e w7 ⟨sa, aa, la, rfl, hoa, hna, hsa, hia, hka, haa, hga⟩
  clear hna hsa hia hka haa
  go_wp2_with fail
  refine (over_new sa aa la hga hoa).mono ?_
  rintro e w8 ⟨rfl, hgb⟩
  clear hga hoa
  replace XA := XA.kept hgb (by simp)
  replace XB := XB.kept hgb (by simp)
  replace XX := XX.kept hgb (by simp)
  replace XY := XY.kept hgb (by simp)
  replace RX := RX.kept hgb (by simp)
  replace RY := RY.kept hgb (by simp)
  replace SA := SA.grown hgb
  replace SB := SB.grown hgb
  replace G := gb_then G hgb (by simp)
  replace qA0 := XA.c0
  replace qA1 := XA.c1
  replace qA2 := XA.lt
  replace qB0 := XB.c0
  replace qB1 := XB.c1
  replace qB2 := XB.lt
  replace qX0 := XX.c0
  replace qX1 := XX.c1
  replace qX2 := XX.lt
  replace qY0 := XY.c0
  replace qY1 := XY.c1
  replace qY2 := XY.lt
  clear hgb
  go_wp2_with fail
  refine (of_raw 5 _ (by omega) (by omega)).mono ?_
  rintro e w9 ⟨s9, a9, l9, rfl, ho9, hn9, hs9, hi9, hk9, ha9, hg9⟩
  have HI9 := hid hi9
  clear hi9
  obtain ⟨kA9, mA9, jA9⟩ := box_kept w.heap.size hg9 (by first | (simp; done) | (simp; omega) | omega)
  obtain ⟨kB9, mB9, jB9⟩ := box_kept (w.heap.size + 1) hg9 (by first | (simp; done) | (simp; omega) | omega)
  obtain ⟨kX9, mX9, jX9⟩ := box_kept wX.heap.size hg9 (by first | (simp; done) | (simp; omega) | omega)
  obtain ⟨kY9, mY9, jY9⟩ := box_kept wY.heap.size hg9 (by first | (simp; done) | (simp; omega) | omega)
  go_wp2_with fail
  refine (stays_raw s1 gx a1 c1 x1 _ (by exact RX.kept (show w8.grownBy _ none from (by repeat (first | exact gb_refl _ _ | apply gb_drew | apply gb_alloc | (refine gb_then ?_ (by assumption) (by simp))))) (by simp)) (by exact SA.grown (by repeat (first | exact gb_refl _ _ | apply gb_drew | apply gb_alloc | (refine gb_then ?_ (by assumption) (by simp))))) b1).mono ?_
  rintro e w10 ⟨rfl, hg10⟩
  obtain ⟨kA10, mA10, jA10⟩ := box_kept w.heap.size hg10 (by first | (simp; done) | (simp; omega) | omega)
  obtain ⟨kB10, mB10, jB10⟩ := box_kept (w.heap.size + 1) hg10 (by first | (simp; done) | (simp; omega) | omega)
  obtain ⟨kX10, mX10, jX10⟩ := box_kept wX.heap.size hg10 (by first | (simp; done) | (simp; omega) | omega)
  obtain ⟨kY10, mY10, jY10⟩ := box_kept wY.heap.size hg10 (by first | (simp; done) | (simp; omega) | omega)
  obtain ⟨kF10, mF10, jF10⟩ := box_kept w9.heap.size hg10 (by first | (simp; done) | (simp; omega) | omega)
  go_wp2_with fail
  refine (stays_raw s2 gy a2 c2 x2 _ (by exact RY.kept (show w8.grownBy _ none from (by repeat (first | exact gb_refl _ _ | apply gb_drew | apply gb_alloc | (refine gb_then ?_ (by assumption) (by simp))))) (by simp)) (by exact SB.grown (by repeat (first | exact gb_refl _ _ | apply gb_drew | apply gb_alloc | (refine gb_then ?_ (by assumption) (by simp))))) b2).mono ?_
  rintro e w11 ⟨rfl, hg11⟩
  obtain ⟨kA11, mA11, jA11⟩ := box_kept w.heap.size hg11 (by first | (simp; done) | (simp; omega) | omega)
  obtain ⟨kB11, mB11, jB11⟩ := box_kept (w.heap.size + 1) hg11 (by first | (simp; done) | (simp; omega) | omega)
  obtain ⟨kX11, mX11, jX11⟩ := box_kept wX.heap.size hg11 (by first | (simp; done) | (simp; omega) | omega)
  obtain ⟨kY11, mY11, jY11⟩ := box_kept wY.heap.size hg11 (by first | (simp; done) | (simp; omega) | omega)
  obtain ⟨kF11, mF11, jF11⟩ := box_kept w9.heap.size hg11 (by first | (simp; done) | (simp; omega) | omega)
  go_wp2_with fail
  refine (rsign_raw s2 a2 _ _ x2 _ (by exact SB.grown (by repeat (first | exact gb_refl _ _ | apply gb_drew | apply gb_alloc | (refine gb_then ?_ (by assumption) (by simp)))))).mono ?_
  rintro e w12 ⟨rfl, hg12⟩
  have XF : Bx w12 w9.heap.size (.bool s9) (.slice a9 l9.length l9.length) := (Bx.new w9 _ _ _ 24 rfl).kept (by repeat (first | exact gb_refl _ _ | apply gb_drew | apply gb_alloc | (refine gb_then ?_ (by assumption) (by simp)))) (by simp)
  have SF : SL w12 a9 l9.length l9.length l9 := ho9.sl.grown (by repeat (first | exact gb_refl _ _ | apply gb_drew | apply gb_alloc | (refine gb_then ?_ (by assumption) (by simp))))
  replace G : w.grownBy w12 none := (by repeat (first | exact gb_refl _ _ | apply gb_drew | apply gb_alloc | (refine gb_then ?_ (by assumption) (by simp))))
  have qF0 := XF.c0
  have qF1 := XF.c1
  have qF2 := XF.lt
  clear hg9 hg10 hg11 hg12 ho9 kA9 mA9 jA9 kB9 mB9 jB9 kX9 mX9 jX9 kY9 mY9 jY9 kA10 mA10 jA10 kA11 mA11 jA11 kB10 mB10 jB10 kB11 mB11 jB11 kX10 mX10 jX10 kX11 mX11 jX11 kY10 mY10 jY10 kY11 mY11 jY11 kF10 mF10 jF10 kF11 mF11 jF11
  go_wp2
  first | (go_region_held (fun w' => w'.cell? ⟨w9.heap.size, 0, none⟩ = some (.bool s9) ∧ w'.cell? ⟨w9.heap.size, 1, none⟩ = some (.slice a9 l9.length l9.length)) (go_keep) (first
    | (go_at_call 16; refine (rof_raw 5 _ (by omega) (by omega)).mono ?_; rintro e w13 ⟨s13, a13, l13, rfl, ho13, hn13, hs13, hi13, hk13, hg13⟩; have HI13 := hid hi13; clear hi13; obtain ⟨kF13, mF13, jF13⟩ := box_kept w9.heap.size hg13 (by first | (simp; done) | (simp; omega) | omega))
    | (go_at_call 15; refine (is_true s9 s13 a9 a13 _ _ _ _ l9 l13 _ (by exact SF.grown (by repeat (first | exact gb_refl _ _ | apply gb_drew | apply gb_alloc | (refine gb_then ?_ (by assumption) (by simp))))) (by exact ho13.sl.grown (by repeat (first | exact gb_refl _ _ | apply gb_drew | apply gb_alloc | (refine gb_then ?_ (by assumption) (by simp))))) (std_of hn9 hs9) (by rw [HI9.out, HI13.out])).mono ?_; rintro e w14 ⟨rfl, hg14⟩; obtain ⟨kF14, mF14, jF14⟩ := box_kept w9.heap.size hg14 (by first | (simp; done) | (simp; omega) | omega)))) | fail
  all_goals go_wp2
  all_goals go_ret
  all_goals exact ⟨by first | rfl | simp, (by repeat (first | exact gb_refl _ _ | apply gb_drew | apply gb_alloc | (refine gb_then ?_ (by assumption) (by simp))))⟩
end Go.Proofs.Ytonfnkchpicoiaa
