/-
  The walk of the law BigQuotient: it answers true.
-/
import Derived.Test.YtonfnkchpicoiabAwake
import Derived.Test.YtonfnkchpicoiabQuotMath
import Derived.Deep.DeepCutAuto
namespace Go.Proofs.Ytonfnkchpicoiab
set_option linter.unusedSimpArgs false
set_option linter.unusedVariables false
open Go.RowKit
attribute [local go_sem ↓] Go.wp_at_zero Go.wp_at_succ

theorem dm_more {a b q r x y : Int} (h : DM a b q r) (h' : DM (a + b) b x y) : x = q + 1 ∧ y = r := by
  have h2 : DM (a + b) b (q + 1) r := ⟨by rw [h.1, Int.add_mul]; omega, h.2⟩
  obtain ⟨e1, e2⟩ := dm_unique h' h2
  exact ⟨e1, e2⟩
theorem dm_near {a b q r : Int} (h : DM a b q r) : sgn ((r.natAbs : Int) - (b.natAbs : Int)) < 0 := by
  have := h.2
  unfold sgn
  rw [if_pos (by omega)]
  omega
theorem dm_side {a b q r : Int} (h : DM a b q r) : sgn r = 0 ∨ sgn r = sgn b := by
  have := h.2
  unfold sgn
  by_cases h0 : r = 0
  · left; rw [h0]; rfl
  · right
    rcases this with ⟨h1, h2⟩ | ⟨h1, h2⟩
    · rw [if_neg (by omega), if_neg (by omega), if_neg (by omega), if_neg (by omega)]
    · rw [if_pos (by omega), if_pos (by omega)]
theorem nrm_zero {s : Bool} {l : List Nat} (hn : Nrm l) (h : iv s l = 0) : l.length = 0 := by
  have : l = [] := val_zero_nrm hn (by unfold iv at h; split at h <;> omega)
  rw [this]; rfl

set_option maxHeartbeats 12800000 in
set_option maxRecDepth 100000 in
theorem quotient_zero (s1 s2 : Bool) (a1 a2 : Option Addr) (n1 c1 n2 c2 : Nat) (x1 x2 : List Nat) (w : World) (SA : SL w a1 n1 c1 x1) (SB : SL w a2 n2 c2 x2) (h1 : n1 ≤ 35184372087808) (h2 : n2 ≤ 35184372087808) (hz : iv s2 x2 = 0) :
    Calls Try.prog 3 #[.agg #[.bool s1, .slice a1 n1 c1], .agg #[.bool s2, .slice a2 n2 c2]] w fun e w' => e = .returned (.bool true) ∧ w.grownBy w' none := by
  have hs0 : (sgn (iv s2 x2) == 0) = true := by rw [sgn_zero, decide_eq_true_eq]; exact hz
  have hde : derr (iv s2 x2) = 10 := by unfold derr; rw [if_pos hz]
  have HZ := hid hz
  clear hz
  go_enter Try.func3, Try.ntmps3
  go_wp2_with fail
  refine (awake_raw _).mono ?_
  rintro e w1 ⟨rfl, hg1⟩
  obtain ⟨kA1, mA1, jA1⟩ := box_kept w.heap.size hg1 (by first | (simp; done) | (simp; omega) | omega)
  obtain ⟨kB1, mB1, jB1⟩ := box_kept (w.heap.size + 1) hg1 (by first | (simp; done) | (simp; omega) | omega)
  go_wp2_with fail
  refine (divmod_wide s1 s2 a1 a2 n1 c1 n2 c2 x1 x2 _ (by exact SA.grown (by repeat (first | exact gb_refl _ _ | apply gb_drew | apply gb_alloc | (refine gb_then ?_ (by assumption) (by simp))))) (by exact SB.grown (by repeat (first | exact gb_refl _ _ | apply gb_drew | apply gb_alloc | (refine gb_then ?_ (by assumption) (by simp))))) (by omega) (by omega)).mono ?_
  rintro e w2 ⟨sq, aq, lq, sr, ar, lr, rfl, hq2, hr2, hap, nq, nr, hsq, hsr, hd2, hk2, hl2, hg2⟩
  have hzz : iv sq lq = 0 ∧ iv sr lr = 0 := by
    have h := hd2
    unfold DD at h
    rw [if_pos HZ.out] at h
    exact h
  have hlq : ((lq.length : Int) == 0) = true := by rw [nrm_zero nq hzz.1]; rfl
  have hlr : ((lr.length : Int) == 0) = true := by rw [nrm_zero nr hzz.2]; rfl
  clear hzz hd2
  obtain ⟨kA2, mA2, jA2⟩ := box_kept w.heap.size hg2 (by first | (simp; done) | (simp; omega) | omega)
  obtain ⟨kB2, mB2, jB2⟩ := box_kept (w.heap.size + 1) hg2 (by first | (simp; done) | (simp; omega) | omega)
  go_wp2_with fail
  refine (sign_raw s2 a2 n2 c2 x2 _ (by exact SB.grown (by repeat (first | exact gb_refl _ _ | apply gb_drew | apply gb_alloc | (refine gb_then ?_ (by assumption) (by simp)))))).mono ?_
  rintro e w3 ⟨rfl, hg3⟩
  obtain ⟨kQ3, mQ3, jQ3⟩ := box_kept w2.heap.size hg3 (by first | (simp; done) | (simp; omega) | omega)
  obtain ⟨kR3, mR3, jR3⟩ := box_kept (w2.heap.size + 1) hg3 (by first | (simp; done) | (simp; omega) | omega)
  go_wp2
  go_ret
  exact ⟨by first | rfl | simp [hde], (by repeat (first | exact gb_refl _ _ | apply gb_drew | apply gb_alloc | (refine gb_then ?_ (by assumption) (by simp))))⟩


/-- where the second division's answers lie -/
def QR (w0 : World) (zq zr : Int) (p13 p14 e15 : Value) (wc : World) : Prop :=
  ∃ gX gY sx ax lx sy ay ly, p13 = .pointer (some ⟨gX, 0, none⟩) ∧ p14 = .pointer (some ⟨gY, 0, none⟩) ∧ e15 = .int .i64 0 ∧ Bx wc gX (.bool sx) (.slice ax lx.length lx.length) ∧ Bx wc gY (.bool sy) (.slice ay ly.length ly.length) ∧ SL wc ax lx.length lx.length lx ∧ SL wc ay ly.length ly.length ly ∧ lx.length ≤ 35184372087809 ∧ iv sx lx = zq ∧ iv sy ly = zr ∧ w0.grownBy wc none

theorem fin_aa {w0 w : World} {zq zr : Int} {sx sy : Bool} {ax ay : Option Addr} {lx ly : List Nat} {B : Nat} (K : w0.grownBy w none) (hx : OW w B ax lx.length lx.length lx) (hy : OW w B ay ly.length ly.length ly) (hk : lx.length ≤ 35184372087809) (e1 : iv sx lx = zq) (e2 : iv sy ly = zr) :
    QR w0 zq zr (.pointer (some ⟨w.heap.size, 0, none⟩)) (.pointer (some ⟨w.heap.size + 1, 0, none⟩)) (.int .i64 0) ((w.alloc (.cells #[.bool sx, .slice ax lx.length lx.length] 24)).alloc (.cells #[.bool sy, .slice ay ly.length ly.length] 24)) :=
  ⟨_, _, sx, ax, lx, sy, ay, ly, rfl, rfl, rfl, (Bx.new w _ _ _ 24 rfl).kept (gb_alloc (gb_refl _ none) _) (by simp), Bx.new _ _ _ _ 24 (by simp), hx.sl.grown (gb_alloc (gb_alloc (gb_refl _ _) _) _), hy.sl.grown (gb_alloc (gb_alloc (gb_refl _ _) _) _), hk, e1, e2, gb_alloc (gb_alloc K _) _⟩
theorem fin_aa' {w0 w : World} {zq zr : Int} {sx sy : Bool} {ax ay : Option Addr} {lx ly : List Nat} {B : Nat} (K : w0.grownBy w none) (hx : OW w B ax lx.length lx.length lx) (hy : OW w B ay ly.length ly.length ly) (hk : lx.length ≤ 35184372087809) (e1 : iv sx lx = zq) (e2 : iv sy ly = zr) :
    QR w0 zq zr (.pointer (some ⟨w.heap.size + 1, 0, none⟩)) (.pointer (some ⟨w.heap.size, 0, none⟩)) (.int .i64 0) ((w.alloc (.cells #[.bool sy, .slice ay ly.length ly.length] 24)).alloc (.cells #[.bool sx, .slice ax lx.length lx.length] 24)) :=
  ⟨_, _, sx, ax, lx, sy, ay, ly, rfl, rfl, rfl, Bx.new _ _ _ _ 24 (by simp), (Bx.new w _ _ _ 24 rfl).kept (gb_alloc (gb_refl _ none) _) (by simp), hx.sl.grown (gb_alloc (gb_alloc (gb_refl _ _) _) _), hy.sl.grown (gb_alloc (gb_alloc (gb_refl _ _) _) _), hk, e1, e2, gb_alloc (gb_alloc K _) _⟩
theorem set_two (w : World) (g : Nat) (v0 v1 : Value) : w.grownBy ((w.setCell ⟨g, 0, none⟩ v0).setCell ⟨g, 1, none⟩ v1) (some g) := gb_set (gb_set (gb_refl _ _) _ _ (.inl rfl)) _ _ (.inl rfl)
theorem OW.set_two {w : World} {ax : Option Addr} {lx : List Nat} {B : Nat} (h : OW w B ax lx.length lx.length lx) {g : Nat} (hg : g < B) (v0 v1 : Value) : OW ((w.setCell ⟨g, 0, none⟩ v0).setCell ⟨g, 1, none⟩ v1) B ax lx.length lx.length lx := h.kept (Go.Proofs.Ytonfnkchpicoiab.set_two w g v0 v1) (fun i e => by cases e; exact h.off hg)
theorem fin_sa {w0 w : World} {zq zr : Int} {sx sy : Bool} {ax ay : Option Addr} {lx ly : List Nat} {B : Nat} (K : w0.grownBy w none) (hx : OW w B ax lx.length lx.length lx) (hy : OW w B ay ly.length ly.length ly) (hk : lx.length ≤ 35184372087809) (e1 : iv sx lx = zq) (e2 : iv sy ly = zr) (g : Nat) {u0 u1 : Value} (b : Bx w g u0 u1) (hg : g < B) (h0 : w0.heap.size ≤ g) :
    QR w0 zq zr (.pointer (some ⟨g, 0, none⟩)) (.pointer (some ⟨w.heap.size, 0, none⟩)) (.int .i64 0) (((w.setCell ⟨g, 0, none⟩ (.bool sx)).setCell ⟨g, 1, none⟩ (.slice ax lx.length lx.length)).alloc (.cells #[.bool sy, .slice ay ly.length ly.length] 24)) :=
  ⟨_, _, sx, ax, lx, sy, ay, ly, rfl, rfl, rfl, (b.put _ _).kept (gb_alloc (gb_refl _ none) _) (by simp), Bx.new _ _ _ _ 24 (by simp), (hx.set_two hg _ _).sl.grown (gb_alloc (gb_refl _ _) _), (hy.set_two hg _ _).sl.grown (gb_alloc (gb_refl _ _) _), hk, e1, e2, gb_alloc (gb_then K (set_two w g _ _) (fun i e => by cases e; exact h0)) _⟩
theorem fin_as {w0 w : World} {zq zr : Int} {sx sy : Bool} {ax ay : Option Addr} {lx ly : List Nat} {B : Nat} (K : w0.grownBy w none) (hx : OW w B ax lx.length lx.length lx) (hy : OW w B ay ly.length ly.length ly) (hk : lx.length ≤ 35184372087809) (e1 : iv sx lx = zq) (e2 : iv sy ly = zr) (g : Nat) {u0 u1 : Value} (b : Bx w g u0 u1) (hg : g < B) (h0 : w0.heap.size ≤ g) :
    QR w0 zq zr (.pointer (some ⟨w.heap.size, 0, none⟩)) (.pointer (some ⟨g, 0, none⟩)) (.int .i64 0) (((w.setCell ⟨g, 0, none⟩ (.bool sy)).setCell ⟨g, 1, none⟩ (.slice ay ly.length ly.length)).alloc (.cells #[.bool sx, .slice ax lx.length lx.length] 24)) :=
  ⟨_, _, sx, ax, lx, sy, ay, ly, rfl, rfl, rfl, Bx.new _ _ _ _ 24 (by simp), (b.put _ _).kept (gb_alloc (gb_refl _ none) _) (by simp), (hx.set_two hg _ _).sl.grown (gb_alloc (gb_refl _ _) _), (hy.set_two hg _ _).sl.grown (gb_alloc (gb_refl _ _) _), hk, e1, e2, gb_alloc (gb_then K (set_two w g _ _) (fun i e => by cases e; exact h0)) _⟩
theorem fin_ss {w0 w : World} {zq zr : Int} {sx sy : Bool} {ax ay : Option Addr} {lx ly : List Nat} {B : Nat} (K : w0.grownBy w none) (hx : OW w B ax lx.length lx.length lx) (hy : OW w B ay ly.length ly.length ly) (hk : lx.length ≤ 35184372087809) (e1 : iv sx lx = zq) (e2 : iv sy ly = zr) (g g' : Nat) {u0 u1 v0 v1 : Value} (b : Bx w g u0 u1) (b' : Bx w g' v0 v1) (hg : g < B) (hg' : g' < B) (h0 : w0.heap.size ≤ g) (h0' : w0.heap.size ≤ g') (hne : g ≠ g') :
    QR w0 zq zr (.pointer (some ⟨g, 0, none⟩)) (.pointer (some ⟨g', 0, none⟩)) (.int .i64 0) ((((w.setCell ⟨g, 0, none⟩ (.bool sx)).setCell ⟨g, 1, none⟩ (.slice ax lx.length lx.length)).setCell ⟨g', 0, none⟩ (.bool sy)).setCell ⟨g', 1, none⟩ (.slice ay ly.length ly.length)) :=
  ⟨_, _, sx, ax, lx, sy, ay, ly, rfl, rfl, rfl, (b.put _ _).other hne _ _, (b'.other hne.symm _ _).put _ _, ((hx.set_two hg _ _).set_two hg' _ _).sl, ((hy.set_two hg _ _).set_two hg' _ _).sl, hk, e1, e2, gb_then (gb_then K (set_two w g _ _) (fun i e => by cases e; exact h0)) (set_two _ g' _ _) (fun i e => by cases e; exact h0')⟩

set_option maxHeartbeats 12800000 in
set_option maxRecDepth 100000 in
theorem quotient_nz (s1 s2 : Bool) (a1 a2 : Option Addr) (n1 c1 n2 c2 : Nat) (x1 x2 : List Nat) (w : World) (SA : SL w a1 n1 c1 x1) (SB : SL w a2 n2 c2 x2) (h1 : n1 ≤ 35184372087808) (h2 : n2 ≤ 35184372087808) (hz : ¬ iv s2 x2 = 0) :
    Calls Try.prog 3 #[.agg #[.bool s1, .slice a1 n1 c1], .agg #[.bool s2, .slice a2 n2 c2]] w fun e w' => e = .returned (.bool true) ∧ w.grownBy w' none := by
  have hs0 : (sgn (iv s2 x2) == 0) = false := by rw [sgn_zero]; simpa using hz
  have hde : derr (iv s2 x2) = 0 := by unfold derr; rw [if_neg hz]
  have HZ := hid hz
  clear hz
  go_enter Try.func3, Try.ntmps3
  go_wp2_with fail
  refine (awake_raw _).mono ?_
  rintro e w1 ⟨rfl, hg1⟩
  obtain ⟨kA1, mA1, jA1⟩ := box_kept w.heap.size hg1 (by first | (simp; done) | (simp; omega) | omega)
  obtain ⟨kB1, mB1, jB1⟩ := box_kept (w.heap.size + 1) hg1 (by first | (simp; done) | (simp; omega) | omega)
  go_wp2_with fail
  refine (divmod_wide s1 s2 a1 a2 n1 c1 n2 c2 x1 x2 _ (by exact SA.grown (by repeat (first | exact gb_refl _ _ | apply gb_drew | apply gb_alloc | (refine gb_then ?_ (by assumption) (by simp))))) (by exact SB.grown (by repeat (first | exact gb_refl _ _ | apply gb_drew | apply gb_alloc | (refine gb_then ?_ (by assumption) (by simp))))) (by omega) (by omega)).mono ?_
  rintro e w2 ⟨sq, aq, lq, sr, ar, lr, rfl, hq2, hr2, hap, nq, nr, hsq, hsr, hd2, hk2, hl2, hg2⟩
  have hdm : DM (iv s1 x1) (iv s2 x2) (iv sq lq) (iv sr lr) := by
    have h := hd2
    unfold DD at h
    rwa [if_neg HZ.out] at h
  have HDM := hid hdm
  obtain ⟨M, hM1, hM2, hM⟩ : ∃ M, n1 ≤ M ∧ n2 ≤ M ∧ M ≤ 35184372087808 := ⟨max n1 n2, by omega, by omega, by omega⟩
  obtain ⟨kq, kr, kp, k4, k11, kx⟩ := quot_lens SA.len SB.len SA.lim SB.lim hM1 hM2 hdm nq nr
  have HK4 := hid k4
  have HK11 := hid k11
  have HKX := hid kx
  clear hdm hd2 k4 k11 kx
  obtain ⟨kA2, mA2, jA2⟩ := box_kept w.heap.size hg2 (by first | (simp; done) | (simp; omega) | omega)
  obtain ⟨kB2, mB2, jB2⟩ := box_kept (w.heap.size + 1) hg2 (by first | (simp; done) | (simp; omega) | omega)
  go_wp2_with fail
  refine (sign_raw s2 a2 n2 c2 x2 _ (by exact SB.grown (by repeat (first | exact gb_refl _ _ | apply gb_drew | apply gb_alloc | (refine gb_then ?_ (by assumption) (by simp)))))).mono ?_
  rintro e w3 ⟨rfl, hg3⟩
  have XA : Bx w3 w.heap.size (.bool s1) (.slice a1 n1 c1) := (Bx.new w _ _ _ 24 rfl).kept (by repeat (first | exact gb_refl _ _ | apply gb_drew | apply gb_alloc | (refine gb_then ?_ (by assumption) (by simp)))) (by simp)
  have XB : Bx w3 (w.heap.size + 1) (.bool s2) (.slice a2 n2 c2) := (Bx.new (w.alloc (.cells #[.bool s1, .slice a1 n1 c1] 24)) _ _ _ 24 (by simp)).kept (by repeat (first | exact gb_refl _ _ | apply gb_drew | apply gb_alloc | (refine gb_then ?_ (by assumption) (by simp)))) (by simp)
  have XQ : Bx w3 w2.heap.size (.bool sq) (.slice aq lq.length lq.length) := (Bx.new w2 _ _ _ 24 rfl).kept (by repeat (first | exact gb_refl _ _ | apply gb_drew | apply gb_alloc | (refine gb_then ?_ (by assumption) (by simp)))) (by simp)
  have XR : Bx w3 (w2.heap.size + 1) (.bool sr) (.slice ar lr.length lr.length) := (Bx.new (w2.alloc (.cells #[.bool sq, .slice aq lq.length lq.length] 24)) _ _ _ 24 (by simp)).kept (by repeat (first | exact gb_refl _ _ | apply gb_drew | apply gb_alloc | (refine gb_then ?_ (by assumption) (by simp)))) (by simp)
  have SQ : SL w3 aq lq.length lq.length lq := hq2.sl.grown (by repeat (first | exact gb_refl _ _ | apply gb_drew | apply gb_alloc | (refine gb_then ?_ (by assumption) (by simp))))
  have SR : SL w3 ar lr.length lr.length lr := hr2.sl.grown (by repeat (first | exact gb_refl _ _ | apply gb_drew | apply gb_alloc | (refine gb_then ?_ (by assumption) (by simp))))
  replace SA : SL w3 a1 n1 c1 x1 := SA.grown (by repeat (first | exact gb_refl _ _ | apply gb_drew | apply gb_alloc | (refine gb_then ?_ (by assumption) (by simp))))
  replace SB : SL w3 a2 n2 c2 x2 := SB.grown (by repeat (first | exact gb_refl _ _ | apply gb_drew | apply gb_alloc | (refine gb_then ?_ (by assumption) (by simp))))
  have G : w.grownBy w3 none := (by repeat (first | exact gb_refl _ _ | apply gb_drew | apply gb_alloc | (refine gb_then ?_ (by assumption) (by simp))))
  have hl2w : w.heap.size + 1 < w2.heap.size := by have := hg1.size; have := hg2.size; simp at *; omega
  clear hg1 kA1 mA1 jA1 kB1 mB1 jB1 hg2 kA2 mA2 jA2 kB2 mB2 jB2 hg3 hq2 hr2 hap
  have qA0 := XA.c0
  have qA1 := XA.c1
  have qA2 := XA.lt
  have qB0 := XB.c0
  have qB1 := XB.c1
  have qB2 := XB.lt
  have qQ0 := XQ.c0
  have qQ1 := XQ.c1
  have qQ2 := XQ.lt
  have qR0 := XR.c0
  have qR1 := XR.c1
  have qR2 := XR.lt
  go_wp2
  go_region_held3 (fun w' => w'.cell? ⟨w.heap.size, 0, none⟩ = some (.bool s1) ∧ w'.cell? ⟨w.heap.size, 1, none⟩ = some (.slice a1 n1 c1) ∧ w'.cell? ⟨(w.heap.size + 1), 0, none⟩ = some (.bool s2) ∧ w'.cell? ⟨(w.heap.size + 1), 1, none⟩ = some (.slice a2 n2 c2) ∧ w'.cell? ⟨w2.heap.size, 0, none⟩ = some (.bool sq) ∧ w'.cell? ⟨w2.heap.size, 1, none⟩ = some (.slice aq lq.length lq.length) ∧ w'.cell? ⟨(w2.heap.size + 1), 0, none⟩ = some (.bool sr) ∧ w'.cell? ⟨(w2.heap.size + 1), 1, none⟩ = some (.slice ar lr.length lr.length)) (go_keep) (first
    | (go_at_call 9; refine (mul_tr sq s2 aq a2 _ _ n2 c2 lq x2 _ (by exact SQ.grown (by repeat (first | exact gb_refl _ _ | apply gb_drew | apply gb_alloc | (refine gb_then ?_ (by assumption) (by simp))))) (by exact SB.grown (by repeat (first | exact gb_refl _ _ | apply gb_drew | apply gb_alloc | (refine gb_then ?_ (by assumption) (by simp))))) (by omega)).mono ?_; rintro e w4 ⟨s4, a4, l4, rfl, ho4, hn4, hs4, hi4, hk4, ha4, hg4⟩; have HI4 := hid hi4; clear hi4; obtain ⟨kA4, mA4, jA4⟩ := box_kept w.heap.size hg4 (by first | (simp; done) | (simp; omega) | omega); obtain ⟨kB4, mB4, jB4⟩ := box_kept (w.heap.size + 1) hg4 (by first | (simp; done) | (simp; omega) | omega); obtain ⟨kQ4, mQ4, jQ4⟩ := box_kept w2.heap.size hg4 (by first | (simp; done) | (simp; omega) | omega); obtain ⟨kR4, mR4, jR4⟩ := box_kept (w2.heap.size + 1) hg4 (by first | (simp; done) | (simp; omega) | omega))
    | (go_at_call 8; refine (add_raw s4 sr a4 ar _ _ _ _ l4 lr _ (by exact ho4.sl.grown (by repeat (first | exact gb_refl _ _ | apply gb_drew | apply gb_alloc | (refine gb_then ?_ (by assumption) (by simp))))) (by exact SR.grown (by repeat (first | exact gb_refl _ _ | apply gb_drew | apply gb_alloc | (refine gb_then ?_ (by assumption) (by simp))))) (by have := HK4.out s4 l4 hn4 HI4.out; omega) (by omega)).mono ?_; rintro e w5 ⟨s5, a5, l5, rfl, ho5, hn5, hs5, hi5, hk5, ha5, hg5⟩; have HI5 := hid hi5; clear hi5; obtain ⟨kA5, mA5, jA5⟩ := box_kept w.heap.size hg5 (by first | (simp; done) | (simp; omega) | omega); obtain ⟨kB5, mB5, jB5⟩ := box_kept (w.heap.size + 1) hg5 (by first | (simp; done) | (simp; omega) | omega); obtain ⟨kQ5, mQ5, jQ5⟩ := box_kept w2.heap.size hg5 (by first | (simp; done) | (simp; omega) | omega); obtain ⟨kR5, mR5, jR5⟩ := box_kept (w2.heap.size + 1) hg5 (by first | (simp; done) | (simp; omega) | omega))
    | (go_at_call 7; refine (cmp_raw s5 s1 a5 a1 _ _ n1 c1 l5 x1 _ (by exact ho5.sl.grown (by repeat (first | exact gb_refl _ _ | apply gb_drew | apply gb_alloc | (refine gb_then ?_ (by assumption) (by simp))))) (by exact SA.grown (by repeat (first | exact gb_refl _ _ | apply gb_drew | apply gb_alloc | (refine gb_then ?_ (by assumption) (by simp)))))).mono ?_; rintro e w6 ⟨rfl, hg6⟩; obtain ⟨kA6, mA6, jA6⟩ := box_kept w.heap.size hg6 (by first | (simp; done) | (simp; omega) | omega); obtain ⟨kB6, mB6, jB6⟩ := box_kept (w.heap.size + 1) hg6 (by first | (simp; done) | (simp; omega) | omega); obtain ⟨kQ6, mQ6, jQ6⟩ := box_kept w2.heap.size hg6 (by first | (simp; done) | (simp; omega) | omega); obtain ⟨kR6, mR6, jR6⟩ := box_kept (w2.heap.size + 1) hg6 (by first | (simp; done) | (simp; omega) | omega)))
  have F6 : (sgn (iv s5 l5 - iv s1 x1) == 0) = true := by
    rw [sgn_zero, decide_eq_true_eq, HI5.out, HI4.out]
    have := HDM.out.1
    omega
  replace XA : Bx w6 w.heap.size _ _ := XA.kept (by repeat (first | exact gb_refl _ _ | apply gb_drew | apply gb_alloc | (refine gb_then ?_ (by assumption) (by simp)))) (by simp)
  replace SA : SL w6 a1 n1 c1 x1 := SA.grown (by repeat (first | exact gb_refl _ _ | apply gb_drew | apply gb_alloc | (refine gb_then ?_ (by assumption) (by simp))))
  replace XB : Bx w6 (w.heap.size + 1) _ _ := XB.kept (by repeat (first | exact gb_refl _ _ | apply gb_drew | apply gb_alloc | (refine gb_then ?_ (by assumption) (by simp)))) (by simp)
  replace SB : SL w6 a2 n2 c2 x2 := SB.grown (by repeat (first | exact gb_refl _ _ | apply gb_drew | apply gb_alloc | (refine gb_then ?_ (by assumption) (by simp))))
  replace XQ : Bx w6 w2.heap.size _ _ := XQ.kept (by repeat (first | exact gb_refl _ _ | apply gb_drew | apply gb_alloc | (refine gb_then ?_ (by assumption) (by simp)))) (by simp)
  replace SQ : SL w6 aq lq.length lq.length lq := SQ.grown (by repeat (first | exact gb_refl _ _ | apply gb_drew | apply gb_alloc | (refine gb_then ?_ (by assumption) (by simp))))
  replace XR : Bx w6 (w2.heap.size + 1) _ _ := XR.kept (by repeat (first | exact gb_refl _ _ | apply gb_drew | apply gb_alloc | (refine gb_then ?_ (by assumption) (by simp)))) (by simp)
  replace SR : SL w6 ar lr.length lr.length lr := SR.grown (by repeat (first | exact gb_refl _ _ | apply gb_drew | apply gb_alloc | (refine gb_then ?_ (by assumption) (by simp))))
  replace G : w.grownBy w6 none := (by repeat (first | exact gb_refl _ _ | apply gb_drew | apply gb_alloc | (refine gb_then ?_ (by assumption) (by simp))))
  replace qA0 := XA.c0
  replace qA1 := XA.c1
  replace qA2 := XA.lt
  replace qB0 := XB.c0
  replace qB1 := XB.c1
  replace qB2 := XB.lt
  replace qQ0 := XQ.c0
  replace qQ1 := XQ.c1
  replace qQ2 := XQ.lt
  replace qR0 := XR.c0
  replace qR1 := XR.c1
  replace qR2 := XR.lt
  clear hg4 kA4 mA4 jA4 kB4 mB4 jB4 kQ4 mQ4 jQ4 kR4 mR4 jR4 hg5 kA5 mA5 jA5 kB5 mB5 jB5 kQ5 mQ5 jQ5 kR5 mR5 jR5 hg6 kA6 mA6 jA6 kB6 mB6 jB6 kQ6 mQ6 jQ6 kR6 mR6 jR6 ho4 hn4 hs4 hk4 ha4 HI4 ho5 hn5 hs5 hk5 ha5 HI5
  generalize sgn (iv s5 l5 - iv s1 x1) = z6 at *
  go_wp2_with fail
  refine (sign_raw sr ar _ _ lr _ (by exact SR.grown (by repeat (first | exact gb_refl _ _ | apply gb_drew | apply gb_alloc | (refine gb_then ?_ (by assumption) (by simp)))))).mono ?_
  rintro e w7 ⟨rfl, hg7⟩
  obtain ⟨kA7, mA7, jA7⟩ := box_kept w.heap.size hg7 (by first | (simp; done) | (simp; omega) | omega)
  obtain ⟨kB7, mB7, jB7⟩ := box_kept (w.heap.size + 1) hg7 (by first | (simp; done) | (simp; omega) | omega)
  obtain ⟨kQ7, mQ7, jQ7⟩ := box_kept w2.heap.size hg7 (by first | (simp; done) | (simp; omega) | omega)
  obtain ⟨kR7, mR7, jR7⟩ := box_kept (w2.heap.size + 1) hg7 (by first | (simp; done) | (simp; omega) | omega)
  replace XA : Bx w7 w.heap.size _ _ := XA.kept (by repeat (first | exact gb_refl _ _ | apply gb_drew | apply gb_alloc | (refine gb_then ?_ (by assumption) (by simp)))) (by simp)
  replace SA : SL w7 a1 n1 c1 x1 := SA.grown (by repeat (first | exact gb_refl _ _ | apply gb_drew | apply gb_alloc | (refine gb_then ?_ (by assumption) (by simp))))
  replace XB : Bx w7 (w.heap.size + 1) _ _ := XB.kept (by repeat (first | exact gb_refl _ _ | apply gb_drew | apply gb_alloc | (refine gb_then ?_ (by assumption) (by simp)))) (by simp)
  replace SB : SL w7 a2 n2 c2 x2 := SB.grown (by repeat (first | exact gb_refl _ _ | apply gb_drew | apply gb_alloc | (refine gb_then ?_ (by assumption) (by simp))))
  replace XQ : Bx w7 w2.heap.size _ _ := XQ.kept (by repeat (first | exact gb_refl _ _ | apply gb_drew | apply gb_alloc | (refine gb_then ?_ (by assumption) (by simp)))) (by simp)
  replace SQ : SL w7 aq lq.length lq.length lq := SQ.grown (by repeat (first | exact gb_refl _ _ | apply gb_drew | apply gb_alloc | (refine gb_then ?_ (by assumption) (by simp))))
  replace XR : Bx w7 (w2.heap.size + 1) _ _ := XR.kept (by repeat (first | exact gb_refl _ _ | apply gb_drew | apply gb_alloc | (refine gb_then ?_ (by assumption) (by simp)))) (by simp)
  replace SR : SL w7 ar lr.length lr.length lr := SR.grown (by repeat (first | exact gb_refl _ _ | apply gb_drew | apply gb_alloc | (refine gb_then ?_ (by assumption) (by simp))))
  replace G : w.grownBy w7 none := (by repeat (first | exact gb_refl _ _ | apply gb_drew | apply gb_alloc | (refine gb_then ?_ (by assumption) (by simp))))
  replace qA0 := XA.c0
  replace qA1 := XA.c1
  replace qA2 := XA.lt
  replace qB0 := XB.c0
  replace qB1 := XB.c1
  replace qB2 := XB.lt
  replace qQ0 := XQ.c0
  replace qQ1 := XQ.c1
  replace qQ2 := XQ.lt
  replace qR0 := XR.c0
  replace qR1 := XR.c1
  replace qR2 := XR.lt
  clear hg7 kA7 mA7 jA7 kB7 mB7 jB7 kQ7 mQ7 jQ7 kR7 mR7 jR7 
  go_wp2
  go_region_held3 (fun w' => w'.cell? ⟨(w.heap.size + 1), 0, none⟩ = some (.bool s2) ∧ w'.cell? ⟨(w.heap.size + 1), 1, none⟩ = some (.slice a2 n2 c2) ∧ w'.cell? ⟨(w2.heap.size + 1), 0, none⟩ = some (.bool sr) ∧ w'.cell? ⟨(w2.heap.size + 1), 1, none⟩ = some (.slice ar lr.length lr.length)) (go_keep) (first
    | (go_at_call_of 10 (Value.agg #[Value.bool sr, Value.slice ar lr.length lr.length]); refine (abs_raw sr ar _ _ lr _ (by exact SR.grown (by repeat (first | exact gb_refl _ _ | apply gb_drew | apply gb_alloc | (refine gb_then ?_ (by assumption) (by simp)))))).mono ?_; rintro e w8 ⟨s8, a8, l8, rfl, ho8, hn8, hs8, hi8, hk8, ha8, hg8⟩; have HI8 := hid hi8; clear hi8; obtain ⟨kA8, mA8, jA8⟩ := box_kept w.heap.size hg8 (by first | (simp; done) | (simp; omega) | omega); obtain ⟨kB8, mB8, jB8⟩ := box_kept (w.heap.size + 1) hg8 (by first | (simp; done) | (simp; omega) | omega); obtain ⟨kQ8, mQ8, jQ8⟩ := box_kept w2.heap.size hg8 (by first | (simp; done) | (simp; omega) | omega); obtain ⟨kR8, mR8, jR8⟩ := box_kept (w2.heap.size + 1) hg8 (by first | (simp; done) | (simp; omega) | omega))
    | (go_at_call_of 10 (Value.agg #[Value.bool s2, Value.slice a2 n2 c2]); refine (abs_raw s2 a2 n2 c2 x2 _ (by exact SB.grown (by repeat (first | exact gb_refl _ _ | apply gb_drew | apply gb_alloc | (refine gb_then ?_ (by assumption) (by simp)))))).mono ?_; rintro e w9 ⟨s9, a9, l9, rfl, ho9, hn9, hs9, hi9, hk9, ha9, hg9⟩; have HI9 := hid hi9; clear hi9; obtain ⟨kA9, mA9, jA9⟩ := box_kept w.heap.size hg9 (by first | (simp; done) | (simp; omega) | omega); obtain ⟨kB9, mB9, jB9⟩ := box_kept (w.heap.size + 1) hg9 (by first | (simp; done) | (simp; omega) | omega); obtain ⟨kQ9, mQ9, jQ9⟩ := box_kept w2.heap.size hg9 (by first | (simp; done) | (simp; omega) | omega); obtain ⟨kR9, mR9, jR9⟩ := box_kept (w2.heap.size + 1) hg9 (by first | (simp; done) | (simp; omega) | omega))
    | (go_at_call 7; refine (cmp_raw s8 s9 a8 a9 _ _ _ _ l8 l9 _ (by exact ho8.sl.grown (by repeat (first | exact gb_refl _ _ | apply gb_drew | apply gb_alloc | (refine gb_then ?_ (by assumption) (by simp))))) (by exact ho9.sl.grown (by repeat (first | exact gb_refl _ _ | apply gb_drew | apply gb_alloc | (refine gb_then ?_ (by assumption) (by simp)))))).mono ?_; rintro e w10 ⟨rfl, hg10⟩; obtain ⟨kA10, mA10, jA10⟩ := box_kept w.heap.size hg10 (by first | (simp; done) | (simp; omega) | omega); obtain ⟨kB10, mB10, jB10⟩ := box_kept (w.heap.size + 1) hg10 (by first | (simp; done) | (simp; omega) | omega); obtain ⟨kQ10, mQ10, jQ10⟩ := box_kept w2.heap.size hg10 (by first | (simp; done) | (simp; omega) | omega); obtain ⟨kR10, mR10, jR10⟩ := box_kept (w2.heap.size + 1) hg10 (by first | (simp; done) | (simp; omega) | omega)))
  have F10 : sgn (iv s8 l8 - iv s9 l9) < 0 := by
    rw [HI8.out, HI9.out]
    exact dm_near HDM.out
  replace XA : Bx w10 w.heap.size _ _ := XA.kept (by repeat (first | exact gb_refl _ _ | apply gb_drew | apply gb_alloc | (refine gb_then ?_ (by assumption) (by simp)))) (by simp)
  replace SA : SL w10 a1 n1 c1 x1 := SA.grown (by repeat (first | exact gb_refl _ _ | apply gb_drew | apply gb_alloc | (refine gb_then ?_ (by assumption) (by simp))))
  replace XB : Bx w10 (w.heap.size + 1) _ _ := XB.kept (by repeat (first | exact gb_refl _ _ | apply gb_drew | apply gb_alloc | (refine gb_then ?_ (by assumption) (by simp)))) (by simp)
  replace SB : SL w10 a2 n2 c2 x2 := SB.grown (by repeat (first | exact gb_refl _ _ | apply gb_drew | apply gb_alloc | (refine gb_then ?_ (by assumption) (by simp))))
  replace XQ : Bx w10 w2.heap.size _ _ := XQ.kept (by repeat (first | exact gb_refl _ _ | apply gb_drew | apply gb_alloc | (refine gb_then ?_ (by assumption) (by simp)))) (by simp)
  replace SQ : SL w10 aq lq.length lq.length lq := SQ.grown (by repeat (first | exact gb_refl _ _ | apply gb_drew | apply gb_alloc | (refine gb_then ?_ (by assumption) (by simp))))
  replace XR : Bx w10 (w2.heap.size + 1) _ _ := XR.kept (by repeat (first | exact gb_refl _ _ | apply gb_drew | apply gb_alloc | (refine gb_then ?_ (by assumption) (by simp)))) (by simp)
  replace SR : SL w10 ar lr.length lr.length lr := SR.grown (by repeat (first | exact gb_refl _ _ | apply gb_drew | apply gb_alloc | (refine gb_then ?_ (by assumption) (by simp))))
  replace G : w.grownBy w10 none := (by repeat (first | exact gb_refl _ _ | apply gb_drew | apply gb_alloc | (refine gb_then ?_ (by assumption) (by simp))))
  replace qA0 := XA.c0
  replace qA1 := XA.c1
  replace qA2 := XA.lt
  replace qB0 := XB.c0
  replace qB1 := XB.c1
  replace qB2 := XB.lt
  replace qQ0 := XQ.c0
  replace qQ1 := XQ.c1
  replace qQ2 := XQ.lt
  replace qR0 := XR.c0
  replace qR1 := XR.c1
  replace qR2 := XR.lt
  clear hg8 kA8 mA8 jA8 kB8 mB8 jB8 kQ8 mQ8 jQ8 kR8 mR8 jR8 hg9 kA9 mA9 jA9 kB9 mB9 jB9 kQ9 mQ9 jQ9 kR9 mR9 jR9 hg10 kA10 mA10 jA10 kB10 mB10 jB10 kQ10 mQ10 jQ10 kR10 mR10 jR10 ho8 hn8 hs8 hk8 ha8 HI8 ho9 hn9 hs9 hk9 ha9 HI9
  generalize sgn (iv s8 l8 - iv s9 l9) = z10 at *
  go_wp2
  have HB : Hid (∀ w11, SL w11 a2 n2 c2 x2 → ∀ s11 a11 l11, SL w11 a11 l11.length l11.length l11 → l11.length ≤ M + 1 → iv s11 l11 = iv s1 x1 + iv s2 x2 → Calls Try.prog 5 #[.agg #[.bool s11, .slice a11 l11.length l11.length], .agg #[.bool s2, .slice a2 n2 c2]] w11 fun e w12 => ∃ sx ax lx sy ay ly, e = .returned (.tuple #[.agg #[.bool sx, .slice ax lx.length lx.length], .agg #[.bool sy, .slice ay ly.length ly.length], .int .i64 0]) ∧ OW w12 w11.heap.size ax lx.length lx.length lx ∧ OW w12 w11.heap.size ay ly.length ly.length ly ∧ lx.length ≤ 35184372087809 ∧ iv sx lx = iv sq lq + 1 ∧ iv sy ly = iv sr lr ∧ w11.grownBy w12 none) := by
    intro w11 hb s11 a11 l11 h11 hk11 hi11
    refine (divmod_wide s11 s2 a11 a2 _ _ n2 c2 l11 x2 _ h11 hb (by omega) (by omega)).mono ?_
    rintro e w12 ⟨sx, ax, lx, sy, ay, ly, rfl, hx12, hy12, _, nx12, _, _, _, hd12, hk12, _, hg12⟩
    have h := hd12
    unfold DD at h
    rw [if_neg HZ.out, hi11] at h
    obtain ⟨e1, e2⟩ := dm_more HDM.out h
    exact ⟨sx, ax, lx, sy, ay, ly, by rw [hde], hx12, hy12, by have := HKX.out sx lx nx12 e1; omega, e1, e2, hg12⟩
  go_cut [13, 14, 15] (fun p13 p14 e15 wc => QR w10 (iv sq lq + 1) (iv sr lr) p13 p14 e15 wc)
  case first =>
    have hnw100A : ¬ (w10.heap.size = w.heap.size) := (by omega)
    have hnw100B : ¬ (w10.heap.size = w.heap.size + 1) := (by omega)
    have hnw101A : ¬ (w10.heap.size + 1 = w.heap.size) := (by omega)
    have hnw101B : ¬ (w10.heap.size + 1 = w.heap.size + 1) := (by omega)
    go_region_held3 (fun w' => w'.cell? ⟨w.heap.size, 0, none⟩ = some (.bool s1) ∧ w'.cell? ⟨w.heap.size, 1, none⟩ = some (.slice a1 n1 c1) ∧ w'.cell? ⟨(w.heap.size + 1), 0, none⟩ = some (.bool s2) ∧ w'.cell? ⟨(w.heap.size + 1), 1, none⟩ = some (.slice a2 n2 c2)) (go_keep) (first
      | (go_at_call 8; refine (add_raw s1 s2 a1 a2 n1 c1 n2 c2 x1 x2 ((w10.drew.alloc (.cells #[.bool false, .slice none 0 0] 24)).alloc (.cells #[.bool false, .slice none 0 0] 24)) (by exact SA.grown (by repeat (first | exact gb_refl _ _ | apply gb_drew | apply gb_alloc | (refine gb_then ?_ (by assumption) (by simp))))) (by exact SB.grown (by repeat (first | exact gb_refl _ _ | apply gb_drew | apply gb_alloc | (refine gb_then ?_ (by assumption) (by simp))))) (by omega) (by omega)).mono ?_; rintro e w11 ⟨s11, a11, l11, rfl, ho11, hn11, hs11, hi11, hk11, ha11, hg11⟩; have HI11 := hid hi11; clear hi11; have hv2 : True := trivial; obtain ⟨kA11, mA11, jA11⟩ := box_kept w.heap.size hg11 (by first | (simp; done) | (simp; omega) | omega); obtain ⟨kB11, mB11, jB11⟩ := box_kept (w.heap.size + 1) hg11 (by first | (simp; done) | (simp; omega) | omega); obtain ⟨kQ11, mQ11, jQ11⟩ := box_kept w2.heap.size hg11 (by first | (simp; done) | (simp; omega) | omega); obtain ⟨kR11, mR11, jR11⟩ := box_kept (w2.heap.size + 1) hg11 (by first | (simp; done) | (simp; omega) | omega); have hnw110A : ¬ (w11.heap.size = w.heap.size) := (by omega); have hnw110B : ¬ (w11.heap.size = w.heap.size + 1) := (by omega); have how110 : ¬ (w11.heap.size = w11.heap.size + 1) := (by omega); have hnw111A : ¬ (w11.heap.size + 1 = w.heap.size) := (by omega); have hnw111B : ¬ (w11.heap.size + 1 = w.heap.size + 1) := (by omega); have how111 : ¬ (w11.heap.size + 1 = w11.heap.size) := (by omega); obtain ⟨kp0, mp0, jp0⟩ := box_kept w10.heap.size hg11 (by first | (simp; done) | (simp; omega) | omega); obtain ⟨kp1, mp1, jp1⟩ := box_kept (w10.heap.size + 1) hg11 (by first | (simp; done) | (simp; omega) | omega))
      | (go_at_call 8; refine (add_raw s1 s2 a1 a2 n1 c1 n2 c2 x1 x2 (w10.drew.alloc (.cells #[.bool false, .slice none 0 0] 24)) (by exact SA.grown (by repeat (first | exact gb_refl _ _ | apply gb_drew | apply gb_alloc | (refine gb_then ?_ (by assumption) (by simp))))) (by exact SB.grown (by repeat (first | exact gb_refl _ _ | apply gb_drew | apply gb_alloc | (refine gb_then ?_ (by assumption) (by simp))))) (by omega) (by omega)).mono ?_; rintro e w11 ⟨s11, a11, l11, rfl, ho11, hn11, hs11, hi11, hk11, ha11, hg11⟩; have HI11 := hid hi11; clear hi11; have hv1 : True := trivial; obtain ⟨kA11, mA11, jA11⟩ := box_kept w.heap.size hg11 (by first | (simp; done) | (simp; omega) | omega); obtain ⟨kB11, mB11, jB11⟩ := box_kept (w.heap.size + 1) hg11 (by first | (simp; done) | (simp; omega) | omega); obtain ⟨kQ11, mQ11, jQ11⟩ := box_kept w2.heap.size hg11 (by first | (simp; done) | (simp; omega) | omega); obtain ⟨kR11, mR11, jR11⟩ := box_kept (w2.heap.size + 1) hg11 (by first | (simp; done) | (simp; omega) | omega); have hnw110A : ¬ (w11.heap.size = w.heap.size) := (by omega); have hnw110B : ¬ (w11.heap.size = w.heap.size + 1) := (by omega); have how110 : ¬ (w11.heap.size = w11.heap.size + 1) := (by omega); have hnw111A : ¬ (w11.heap.size + 1 = w.heap.size) := (by omega); have hnw111B : ¬ (w11.heap.size + 1 = w.heap.size + 1) := (by omega); have how111 : ¬ (w11.heap.size + 1 = w11.heap.size) := (by omega); obtain ⟨kp0, mp0, jp0⟩ := box_kept w10.heap.size hg11 (by first | (simp; done) | (simp; omega) | omega))
      | (go_at_call 8; refine (add_raw s1 s2 a1 a2 n1 c1 n2 c2 x1 x2 w10.drew (by exact SA.grown (by repeat (first | exact gb_refl _ _ | apply gb_drew | apply gb_alloc | (refine gb_then ?_ (by assumption) (by simp))))) (by exact SB.grown (by repeat (first | exact gb_refl _ _ | apply gb_drew | apply gb_alloc | (refine gb_then ?_ (by assumption) (by simp))))) (by omega) (by omega)).mono ?_; rintro e w11 ⟨s11, a11, l11, rfl, ho11, hn11, hs11, hi11, hk11, ha11, hg11⟩; have HI11 := hid hi11; clear hi11; have hv0 : True := trivial; obtain ⟨kA11, mA11, jA11⟩ := box_kept w.heap.size hg11 (by first | (simp; done) | (simp; omega) | omega); obtain ⟨kB11, mB11, jB11⟩ := box_kept (w.heap.size + 1) hg11 (by first | (simp; done) | (simp; omega) | omega); obtain ⟨kQ11, mQ11, jQ11⟩ := box_kept w2.heap.size hg11 (by first | (simp; done) | (simp; omega) | omega); obtain ⟨kR11, mR11, jR11⟩ := box_kept (w2.heap.size + 1) hg11 (by first | (simp; done) | (simp; omega) | omega); have hnw110A : ¬ (w11.heap.size = w.heap.size) := (by omega); have hnw110B : ¬ (w11.heap.size = w.heap.size + 1) := (by omega); have how110 : ¬ (w11.heap.size = w11.heap.size + 1) := (by omega); have hnw111A : ¬ (w11.heap.size + 1 = w.heap.size) := (by omega); have hnw111B : ¬ (w11.heap.size + 1 = w.heap.size + 1) := (by omega); have how111 : ¬ (w11.heap.size + 1 = w11.heap.size) := (by omega))
      | (go_at_call 5; have hgd := hv2; clear hgd; refine (HB.out w11 (by exact SB.grown (by repeat (first | exact gb_refl _ _ | apply gb_drew | apply gb_alloc | (refine gb_then ?_ (by assumption) (by simp))))) s11 a11 l11 (by exact ho11.sl.grown (by repeat (first | exact gb_refl _ _ | apply gb_drew | apply gb_alloc | (refine gb_then ?_ (by assumption) (by simp))))) (HK11.out s11 l11 hn11 HI11.out) HI11.out).mono ?_; rintro e w12 ⟨sx, ax, lx, sy, ay, ly, rfl, hx12, hy12, hk12, hi12, hj12, hg12⟩; have HI12 := hid hi12; have HJ12 := hid hj12; clear hi12 hj12; obtain ⟨kA12, mA12, jA12⟩ := box_kept w.heap.size hg12 (by first | (simp; done) | (simp; omega) | omega); obtain ⟨kB12, mB12, jB12⟩ := box_kept (w.heap.size + 1) hg12 (by first | (simp; done) | (simp; omega) | omega); obtain ⟨kQ12, mQ12, jQ12⟩ := box_kept w2.heap.size hg12 (by first | (simp; done) | (simp; omega) | omega); obtain ⟨kR12, mR12, jR12⟩ := box_kept (w2.heap.size + 1) hg12 (by first | (simp; done) | (simp; omega) | omega); have hnw120A : ¬ (w12.heap.size = w.heap.size) := (by omega); have hnw120B : ¬ (w12.heap.size = w.heap.size + 1) := (by omega); have how120 : ¬ (w12.heap.size = w12.heap.size + 1) := (by omega); have hnw121A : ¬ (w12.heap.size + 1 = w.heap.size) := (by omega); have hnw121B : ¬ (w12.heap.size + 1 = w.heap.size + 1) := (by omega); have how121 : ¬ (w12.heap.size + 1 = w12.heap.size) := (by omega); obtain ⟨kq0, mq0, jq0⟩ := box_kept w10.heap.size hg12 (by first | (simp; done) | (simp; omega) | omega); obtain ⟨kq1, mq1, jq1⟩ := box_kept (w10.heap.size + 1) hg12 (by first | (simp; done) | (simp; omega) | omega); have Bp0 : Bx w12 w10.heap.size (.bool false) (.slice none 0 0) := (Bx.new w10.drew _ _ _ 24 (by simp)).kept (by repeat (first | exact gb_refl _ _ | apply gb_drew | apply gb_alloc | (refine gb_then ?_ (by assumption) (by simp)))) (by simp); have Bp1 : Bx w12 (w10.heap.size + 1) (.bool false) (.slice none 0 0) := (Bx.new (w10.drew.alloc (.cells #[.bool false, .slice none 0 0] 24)) _ _ _ 24 (by simp)).kept (by repeat (first | exact gb_refl _ _ | apply gb_drew | apply gb_alloc | (refine gb_then ?_ (by assumption) (by simp)))) (by simp); have K12 : w10.grownBy w12 none := (by repeat (first | exact gb_refl _ _ | apply gb_drew | apply gb_alloc | (refine gb_then ?_ (by assumption) (by simp)))))
      | (go_at_call 5; have hgd := hv1; clear hgd; refine (HB.out (w11.alloc (.cells #[.bool false, .slice none 0 0] 24)) (by exact SB.grown (by repeat (first | exact gb_refl _ _ | apply gb_drew | apply gb_alloc | (refine gb_then ?_ (by assumption) (by simp))))) s11 a11 l11 (by exact ho11.sl.grown (by repeat (first | exact gb_refl _ _ | apply gb_drew | apply gb_alloc | (refine gb_then ?_ (by assumption) (by simp))))) (HK11.out s11 l11 hn11 HI11.out) HI11.out).mono ?_; rintro e w12 ⟨sx, ax, lx, sy, ay, ly, rfl, hx12, hy12, hk12, hi12, hj12, hg12⟩; have HI12 := hid hi12; have HJ12 := hid hj12; clear hi12 hj12; obtain ⟨kA12, mA12, jA12⟩ := box_kept w.heap.size hg12 (by first | (simp; done) | (simp; omega) | omega); obtain ⟨kB12, mB12, jB12⟩ := box_kept (w.heap.size + 1) hg12 (by first | (simp; done) | (simp; omega) | omega); obtain ⟨kQ12, mQ12, jQ12⟩ := box_kept w2.heap.size hg12 (by first | (simp; done) | (simp; omega) | omega); obtain ⟨kR12, mR12, jR12⟩ := box_kept (w2.heap.size + 1) hg12 (by first | (simp; done) | (simp; omega) | omega); have hnw120A : ¬ (w12.heap.size = w.heap.size) := (by omega); have hnw120B : ¬ (w12.heap.size = w.heap.size + 1) := (by omega); have how120 : ¬ (w12.heap.size = w12.heap.size + 1) := (by omega); have hnw121A : ¬ (w12.heap.size + 1 = w.heap.size) := (by omega); have hnw121B : ¬ (w12.heap.size + 1 = w.heap.size + 1) := (by omega); have how121 : ¬ (w12.heap.size + 1 = w12.heap.size) := (by omega); obtain ⟨kq0, mq0, jq0⟩ := box_kept w10.heap.size hg12 (by first | (simp; done) | (simp; omega) | omega); obtain ⟨kr0, mr0, jr0⟩ := box_kept w11.heap.size hg12 (by first | (simp; done) | (simp; omega) | omega); have Bp0 : Bx w12 w10.heap.size (.bool false) (.slice none 0 0) := (Bx.new w10.drew _ _ _ 24 (by simp)).kept (by repeat (first | exact gb_refl _ _ | apply gb_drew | apply gb_alloc | (refine gb_then ?_ (by assumption) (by simp)))) (by simp); have Br0 : Bx w12 w11.heap.size (.bool false) (.slice none 0 0) := (Bx.new w11 _ _ _ 24 (by simp)).kept (by repeat (first | exact gb_refl _ _ | apply gb_drew | apply gb_alloc | (refine gb_then ?_ (by assumption) (by simp)))) (by simp); have K12 : w10.grownBy w12 none := (by repeat (first | exact gb_refl _ _ | apply gb_drew | apply gb_alloc | (refine gb_then ?_ (by assumption) (by simp)))))
      | (go_at_call 5; have hgd := hv1; clear hgd; refine (HB.out w11 (by exact SB.grown (by repeat (first | exact gb_refl _ _ | apply gb_drew | apply gb_alloc | (refine gb_then ?_ (by assumption) (by simp))))) s11 a11 l11 (by exact ho11.sl.grown (by repeat (first | exact gb_refl _ _ | apply gb_drew | apply gb_alloc | (refine gb_then ?_ (by assumption) (by simp))))) (HK11.out s11 l11 hn11 HI11.out) HI11.out).mono ?_; rintro e w12 ⟨sx, ax, lx, sy, ay, ly, rfl, hx12, hy12, hk12, hi12, hj12, hg12⟩; have HI12 := hid hi12; have HJ12 := hid hj12; clear hi12 hj12; obtain ⟨kA12, mA12, jA12⟩ := box_kept w.heap.size hg12 (by first | (simp; done) | (simp; omega) | omega); obtain ⟨kB12, mB12, jB12⟩ := box_kept (w.heap.size + 1) hg12 (by first | (simp; done) | (simp; omega) | omega); obtain ⟨kQ12, mQ12, jQ12⟩ := box_kept w2.heap.size hg12 (by first | (simp; done) | (simp; omega) | omega); obtain ⟨kR12, mR12, jR12⟩ := box_kept (w2.heap.size + 1) hg12 (by first | (simp; done) | (simp; omega) | omega); have hnw120A : ¬ (w12.heap.size = w.heap.size) := (by omega); have hnw120B : ¬ (w12.heap.size = w.heap.size + 1) := (by omega); have how120 : ¬ (w12.heap.size = w12.heap.size + 1) := (by omega); have hnw121A : ¬ (w12.heap.size + 1 = w.heap.size) := (by omega); have hnw121B : ¬ (w12.heap.size + 1 = w.heap.size + 1) := (by omega); have how121 : ¬ (w12.heap.size + 1 = w12.heap.size) := (by omega); obtain ⟨kq0, mq0, jq0⟩ := box_kept w10.heap.size hg12 (by first | (simp; done) | (simp; omega) | omega); have Bp0 : Bx w12 w10.heap.size (.bool false) (.slice none 0 0) := (Bx.new w10.drew _ _ _ 24 (by simp)).kept (by repeat (first | exact gb_refl _ _ | apply gb_drew | apply gb_alloc | (refine gb_then ?_ (by assumption) (by simp)))) (by simp); have K12 : w10.grownBy w12 none := (by repeat (first | exact gb_refl _ _ | apply gb_drew | apply gb_alloc | (refine gb_then ?_ (by assumption) (by simp)))))
      | (go_at_call 5; have hgd := hv0; clear hgd; refine (HB.out ((w11.alloc (.cells #[.bool false, .slice none 0 0] 24)).alloc (.cells #[.bool false, .slice none 0 0] 24)) (by exact SB.grown (by repeat (first | exact gb_refl _ _ | apply gb_drew | apply gb_alloc | (refine gb_then ?_ (by assumption) (by simp))))) s11 a11 l11 (by exact ho11.sl.grown (by repeat (first | exact gb_refl _ _ | apply gb_drew | apply gb_alloc | (refine gb_then ?_ (by assumption) (by simp))))) (HK11.out s11 l11 hn11 HI11.out) HI11.out).mono ?_; rintro e w12 ⟨sx, ax, lx, sy, ay, ly, rfl, hx12, hy12, hk12, hi12, hj12, hg12⟩; have HI12 := hid hi12; have HJ12 := hid hj12; clear hi12 hj12; obtain ⟨kA12, mA12, jA12⟩ := box_kept w.heap.size hg12 (by first | (simp; done) | (simp; omega) | omega); obtain ⟨kB12, mB12, jB12⟩ := box_kept (w.heap.size + 1) hg12 (by first | (simp; done) | (simp; omega) | omega); obtain ⟨kQ12, mQ12, jQ12⟩ := box_kept w2.heap.size hg12 (by first | (simp; done) | (simp; omega) | omega); obtain ⟨kR12, mR12, jR12⟩ := box_kept (w2.heap.size + 1) hg12 (by first | (simp; done) | (simp; omega) | omega); have hnw120A : ¬ (w12.heap.size = w.heap.size) := (by omega); have hnw120B : ¬ (w12.heap.size = w.heap.size + 1) := (by omega); have how120 : ¬ (w12.heap.size = w12.heap.size + 1) := (by omega); have hnw121A : ¬ (w12.heap.size + 1 = w.heap.size) := (by omega); have hnw121B : ¬ (w12.heap.size + 1 = w.heap.size + 1) := (by omega); have how121 : ¬ (w12.heap.size + 1 = w12.heap.size) := (by omega); obtain ⟨kr0, mr0, jr0⟩ := box_kept w11.heap.size hg12 (by first | (simp; done) | (simp; omega) | omega); obtain ⟨kr1, mr1, jr1⟩ := box_kept (w11.heap.size + 1) hg12 (by first | (simp; done) | (simp; omega) | omega); have Br0 : Bx w12 w11.heap.size (.bool false) (.slice none 0 0) := (Bx.new w11 _ _ _ 24 (by simp)).kept (by repeat (first | exact gb_refl _ _ | apply gb_drew | apply gb_alloc | (refine gb_then ?_ (by assumption) (by simp)))) (by simp); have Br1 : Bx w12 (w11.heap.size + 1) (.bool false) (.slice none 0 0) := (Bx.new (w11.alloc (.cells #[.bool false, .slice none 0 0] 24)) _ _ _ 24 (by simp)).kept (by repeat (first | exact gb_refl _ _ | apply gb_drew | apply gb_alloc | (refine gb_then ?_ (by assumption) (by simp)))) (by simp); have K12 : w10.grownBy w12 none := (by repeat (first | exact gb_refl _ _ | apply gb_drew | apply gb_alloc | (refine gb_then ?_ (by assumption) (by simp)))))
      | (go_at_call 5; have hgd := hv0; clear hgd; refine (HB.out (w11.alloc (.cells #[.bool false, .slice none 0 0] 24)) (by exact SB.grown (by repeat (first | exact gb_refl _ _ | apply gb_drew | apply gb_alloc | (refine gb_then ?_ (by assumption) (by simp))))) s11 a11 l11 (by exact ho11.sl.grown (by repeat (first | exact gb_refl _ _ | apply gb_drew | apply gb_alloc | (refine gb_then ?_ (by assumption) (by simp))))) (HK11.out s11 l11 hn11 HI11.out) HI11.out).mono ?_; rintro e w12 ⟨sx, ax, lx, sy, ay, ly, rfl, hx12, hy12, hk12, hi12, hj12, hg12⟩; have HI12 := hid hi12; have HJ12 := hid hj12; clear hi12 hj12; obtain ⟨kA12, mA12, jA12⟩ := box_kept w.heap.size hg12 (by first | (simp; done) | (simp; omega) | omega); obtain ⟨kB12, mB12, jB12⟩ := box_kept (w.heap.size + 1) hg12 (by first | (simp; done) | (simp; omega) | omega); obtain ⟨kQ12, mQ12, jQ12⟩ := box_kept w2.heap.size hg12 (by first | (simp; done) | (simp; omega) | omega); obtain ⟨kR12, mR12, jR12⟩ := box_kept (w2.heap.size + 1) hg12 (by first | (simp; done) | (simp; omega) | omega); have hnw120A : ¬ (w12.heap.size = w.heap.size) := (by omega); have hnw120B : ¬ (w12.heap.size = w.heap.size + 1) := (by omega); have how120 : ¬ (w12.heap.size = w12.heap.size + 1) := (by omega); have hnw121A : ¬ (w12.heap.size + 1 = w.heap.size) := (by omega); have hnw121B : ¬ (w12.heap.size + 1 = w.heap.size + 1) := (by omega); have how121 : ¬ (w12.heap.size + 1 = w12.heap.size) := (by omega); obtain ⟨kr0, mr0, jr0⟩ := box_kept w11.heap.size hg12 (by first | (simp; done) | (simp; omega) | omega); have Br0 : Bx w12 w11.heap.size (.bool false) (.slice none 0 0) := (Bx.new w11 _ _ _ 24 (by simp)).kept (by repeat (first | exact gb_refl _ _ | apply gb_drew | apply gb_alloc | (refine gb_then ?_ (by assumption) (by simp)))) (by simp); have K12 : w10.grownBy w12 none := (by repeat (first | exact gb_refl _ _ | apply gb_drew | apply gb_alloc | (refine gb_then ?_ (by assumption) (by simp)))))
      | (go_at_call 5; have hgd := hv0; clear hgd; refine (HB.out w11 (by exact SB.grown (by repeat (first | exact gb_refl _ _ | apply gb_drew | apply gb_alloc | (refine gb_then ?_ (by assumption) (by simp))))) s11 a11 l11 (by exact ho11.sl.grown (by repeat (first | exact gb_refl _ _ | apply gb_drew | apply gb_alloc | (refine gb_then ?_ (by assumption) (by simp))))) (HK11.out s11 l11 hn11 HI11.out) HI11.out).mono ?_; rintro e w12 ⟨sx, ax, lx, sy, ay, ly, rfl, hx12, hy12, hk12, hi12, hj12, hg12⟩; have HI12 := hid hi12; have HJ12 := hid hj12; clear hi12 hj12; obtain ⟨kA12, mA12, jA12⟩ := box_kept w.heap.size hg12 (by first | (simp; done) | (simp; omega) | omega); obtain ⟨kB12, mB12, jB12⟩ := box_kept (w.heap.size + 1) hg12 (by first | (simp; done) | (simp; omega) | omega); obtain ⟨kQ12, mQ12, jQ12⟩ := box_kept w2.heap.size hg12 (by first | (simp; done) | (simp; omega) | omega); obtain ⟨kR12, mR12, jR12⟩ := box_kept (w2.heap.size + 1) hg12 (by first | (simp; done) | (simp; omega) | omega); have hnw120A : ¬ (w12.heap.size = w.heap.size) := (by omega); have hnw120B : ¬ (w12.heap.size = w.heap.size + 1) := (by omega); have how120 : ¬ (w12.heap.size = w12.heap.size + 1) := (by omega); have hnw121A : ¬ (w12.heap.size + 1 = w.heap.size) := (by omega); have hnw121B : ¬ (w12.heap.size + 1 = w.heap.size + 1) := (by omega); have how121 : ¬ (w12.heap.size + 1 = w12.heap.size) := (by omega); have K12 : w10.grownBy w12 none := (by repeat (first | exact gb_refl _ _ | apply gb_drew | apply gb_alloc | (refine gb_then ?_ (by assumption) (by simp))))))
    all_goals
      have hz11 := hg11.size
      have hz12 := hg12.size
      simp at hz11 hz12
      go_wp2_with fail
      go_meet
      first
        | exact fin_aa K12 hx12 hy12 hk12 HI12.out HJ12.out
        | exact fin_aa' K12 hx12 hy12 hk12 HI12.out HJ12.out
        | exact fin_sa K12 hx12 hy12 hk12 HI12.out HJ12.out w10.heap.size Bp0 (by first | omega | (simp; omega) | (simp; done)) (by first | omega | (simp; omega) | (simp; done))
        | exact fin_as K12 hx12 hy12 hk12 HI12.out HJ12.out w10.heap.size Bp0 (by first | omega | (simp; omega) | (simp; done)) (by first | omega | (simp; omega) | (simp; done))
        | exact fin_sa K12 hx12 hy12 hk12 HI12.out HJ12.out (w10.heap.size + 1) Bp1 (by first | omega | (simp; omega) | (simp; done)) (by first | omega | (simp; omega) | (simp; done))
        | exact fin_as K12 hx12 hy12 hk12 HI12.out HJ12.out (w10.heap.size + 1) Bp1 (by first | omega | (simp; omega) | (simp; done)) (by first | omega | (simp; omega) | (simp; done))
        | exact fin_sa K12 hx12 hy12 hk12 HI12.out HJ12.out w11.heap.size Br0 (by first | omega | (simp; omega) | (simp; done)) (by first | omega | (simp; omega) | (simp; done))
        | exact fin_as K12 hx12 hy12 hk12 HI12.out HJ12.out w11.heap.size Br0 (by first | omega | (simp; omega) | (simp; done)) (by first | omega | (simp; omega) | (simp; done))
        | exact fin_sa K12 hx12 hy12 hk12 HI12.out HJ12.out (w11.heap.size + 1) Br1 (by first | omega | (simp; omega) | (simp; done)) (by first | omega | (simp; omega) | (simp; done))
        | exact fin_as K12 hx12 hy12 hk12 HI12.out HJ12.out (w11.heap.size + 1) Br1 (by first | omega | (simp; omega) | (simp; done)) (by first | omega | (simp; omega) | (simp; done))
        | exact fin_ss K12 hx12 hy12 hk12 HI12.out HJ12.out w10.heap.size (w10.heap.size + 1) Bp0 Bp1 (by first | omega | (simp; omega) | (simp; done)) (by first | omega | (simp; omega) | (simp; done)) (by first | omega | (simp; omega) | (simp; done)) (by first | omega | (simp; omega) | (simp; done)) (by first | omega | (simp; omega) | (simp; done))
        | exact fin_ss K12 hx12 hy12 hk12 HI12.out HJ12.out w10.heap.size w11.heap.size Bp0 Br0 (by first | omega | (simp; omega) | (simp; done)) (by first | omega | (simp; omega) | (simp; done)) (by first | omega | (simp; omega) | (simp; done)) (by first | omega | (simp; omega) | (simp; done)) (by first | omega | (simp; omega) | (simp; done))
        | exact fin_ss K12 hx12 hy12 hk12 HI12.out HJ12.out w10.heap.size (w11.heap.size + 1) Bp0 Br1 (by first | omega | (simp; omega) | (simp; done)) (by first | omega | (simp; omega) | (simp; done)) (by first | omega | (simp; omega) | (simp; done)) (by first | omega | (simp; omega) | (simp; done)) (by first | omega | (simp; omega) | (simp; done))
        | exact fin_ss K12 hx12 hy12 hk12 HI12.out HJ12.out (w10.heap.size + 1) w10.heap.size Bp1 Bp0 (by first | omega | (simp; omega) | (simp; done)) (by first | omega | (simp; omega) | (simp; done)) (by first | omega | (simp; omega) | (simp; done)) (by first | omega | (simp; omega) | (simp; done)) (by first | omega | (simp; omega) | (simp; done))
        | exact fin_ss K12 hx12 hy12 hk12 HI12.out HJ12.out (w10.heap.size + 1) w11.heap.size Bp1 Br0 (by first | omega | (simp; omega) | (simp; done)) (by first | omega | (simp; omega) | (simp; done)) (by first | omega | (simp; omega) | (simp; done)) (by first | omega | (simp; omega) | (simp; done)) (by first | omega | (simp; omega) | (simp; done))
        | exact fin_ss K12 hx12 hy12 hk12 HI12.out HJ12.out (w10.heap.size + 1) (w11.heap.size + 1) Bp1 Br1 (by first | omega | (simp; omega) | (simp; done)) (by first | omega | (simp; omega) | (simp; done)) (by first | omega | (simp; omega) | (simp; done)) (by first | omega | (simp; omega) | (simp; done)) (by first | omega | (simp; omega) | (simp; done))
        | exact fin_ss K12 hx12 hy12 hk12 HI12.out HJ12.out w11.heap.size w10.heap.size Br0 Bp0 (by first | omega | (simp; omega) | (simp; done)) (by first | omega | (simp; omega) | (simp; done)) (by first | omega | (simp; omega) | (simp; done)) (by first | omega | (simp; omega) | (simp; done)) (by first | omega | (simp; omega) | (simp; done))
        | exact fin_ss K12 hx12 hy12 hk12 HI12.out HJ12.out w11.heap.size (w10.heap.size + 1) Br0 Bp1 (by first | omega | (simp; omega) | (simp; done)) (by first | omega | (simp; omega) | (simp; done)) (by first | omega | (simp; omega) | (simp; done)) (by first | omega | (simp; omega) | (simp; done)) (by first | omega | (simp; omega) | (simp; done))
        | exact fin_ss K12 hx12 hy12 hk12 HI12.out HJ12.out w11.heap.size (w11.heap.size + 1) Br0 Br1 (by first | omega | (simp; omega) | (simp; done)) (by first | omega | (simp; omega) | (simp; done)) (by first | omega | (simp; omega) | (simp; done)) (by first | omega | (simp; omega) | (simp; done)) (by first | omega | (simp; omega) | (simp; done))
        | exact fin_ss K12 hx12 hy12 hk12 HI12.out HJ12.out (w11.heap.size + 1) w10.heap.size Br1 Bp0 (by first | omega | (simp; omega) | (simp; done)) (by first | omega | (simp; omega) | (simp; done)) (by first | omega | (simp; omega) | (simp; done)) (by first | omega | (simp; omega) | (simp; done)) (by first | omega | (simp; omega) | (simp; done))
        | exact fin_ss K12 hx12 hy12 hk12 HI12.out HJ12.out (w11.heap.size + 1) (w10.heap.size + 1) Br1 Bp1 (by first | omega | (simp; omega) | (simp; done)) (by first | omega | (simp; omega) | (simp; done)) (by first | omega | (simp; omega) | (simp; done)) (by first | omega | (simp; omega) | (simp; done)) (by first | omega | (simp; omega) | (simp; done))
        | exact fin_ss K12 hx12 hy12 hk12 HI12.out HJ12.out (w11.heap.size + 1) w11.heap.size Br1 Br0 (by first | omega | (simp; omega) | (simp; done)) (by first | omega | (simp; omega) | (simp; done)) (by first | omega | (simp; omega) | (simp; done)) (by first | omega | (simp; omega) | (simp; done)) (by first | omega | (simp; omega) | (simp; done))
  case rest =>
    obtain ⟨gX, gY, sx, ax, lx, sy, ay, ly, rfl, rfl, rfl, XX, XY, SX, SY, hkx, hix, hiy, KC⟩ := hcut
    have HIX := hid hix
    have HIY := hid hiy
    clear hix hiy
    replace XA := XA.kept KC (by simp)
    replace SA := SA.grown KC
    replace XB := XB.kept KC (by simp)
    replace SB := SB.grown KC
    replace XQ := XQ.kept KC (by simp)
    replace SQ := SQ.grown KC
    replace XR := XR.kept KC (by simp)
    replace SR := SR.grown KC
    replace G := gb_then G KC (by simp)
    replace qA0 := XA.c0
    replace qA1 := XA.c1
    replace qA2 := XA.lt
    replace qB0 := XB.c0
    replace qB1 := XB.c1
    replace qB2 := XB.lt
    replace qQ0 := XQ.c0
    replace qQ1 := XQ.c1
    replace qQ2 := XQ.lt
    replace qR0 := XR.c0
    replace qR1 := XR.c1
    replace qR2 := XR.lt
    have qX0 := XX.c0
    have qX1 := XX.c1
    have qX2 := XX.lt
    have qY0 := XY.c0
    have qY1 := XY.c1
    have qY2 := XY.lt
    go_wp2_with fail
    refine (sub_raw sx sq ax aq _ _ _ _ lx lq _ (by exact SX.grown (by repeat (first | exact gb_refl _ _ | apply gb_drew | apply gb_alloc | (refine gb_then ?_ (by assumption) (by simp))))) (by exact SQ.grown (by repeat (first | exact gb_refl _ _ | apply gb_drew | apply gb_alloc | (refine gb_then ?_ (by assumption) (by simp))))) (by omega) (by omega)).mono ?_
    rintro e w16 ⟨s16, a16, l16, rfl, ho16, hn16, hs16, hi16, hk16, ha16, hg16⟩
    have HI16 := hid hi16
    clear hi16
    obtain ⟨kA16, mA16, jA16⟩ := box_kept w.heap.size hg16 (by first | (simp; done) | (simp; omega) | omega)
    obtain ⟨kB16, mB16, jB16⟩ := box_kept (w.heap.size + 1) hg16 (by first | (simp; done) | (simp; omega) | omega)
    obtain ⟨kQ16, mQ16, jQ16⟩ := box_kept w2.heap.size hg16 (by first | (simp; done) | (simp; omega) | omega)
    obtain ⟨kR16, mR16, jR16⟩ := box_kept (w2.heap.size + 1) hg16 (by first | (simp; done) | (simp; omega) | omega)
    obtain ⟨kX16, mX16, jX16⟩ := box_kept gX hg16 (by first | (simp; done) | (simp; omega) | omega)
    obtain ⟨kY16, mY16, jY16⟩ := box_kept gY hg16 (by first | (simp; done) | (simp; omega) | omega)
    go_wp2_with fail
    refine (of_raw 1 _ (by omega) (by omega)).mono ?_
    rintro e w17 ⟨s17, a17, l17, rfl, ho17, hn17, hs17, hi17, hk17, ha17, hg17⟩
    have HI17 := hid hi17
    clear hi17
    obtain ⟨kA17, mA17, jA17⟩ := box_kept w.heap.size hg17 (by first | (simp; done) | (simp; omega) | omega)
    obtain ⟨kB17, mB17, jB17⟩ := box_kept (w.heap.size + 1) hg17 (by first | (simp; done) | (simp; omega) | omega)
    obtain ⟨kQ17, mQ17, jQ17⟩ := box_kept w2.heap.size hg17 (by first | (simp; done) | (simp; omega) | omega)
    obtain ⟨kR17, mR17, jR17⟩ := box_kept (w2.heap.size + 1) hg17 (by first | (simp; done) | (simp; omega) | omega)
    obtain ⟨kX17, mX17, jX17⟩ := box_kept gX hg17 (by first | (simp; done) | (simp; omega) | omega)
    obtain ⟨kY17, mY17, jY17⟩ := box_kept gY hg17 (by first | (simp; done) | (simp; omega) | omega)
    go_wp2_with fail
    refine (cmp_raw s16 s17 a16 a17 _ _ _ _ l16 l17 _ (by exact ho16.sl.grown (by repeat (first | exact gb_refl _ _ | apply gb_drew | apply gb_alloc | (refine gb_then ?_ (by assumption) (by simp))))) (by exact ho17.sl.grown (by repeat (first | exact gb_refl _ _ | apply gb_drew | apply gb_alloc | (refine gb_then ?_ (by assumption) (by simp)))))).mono ?_
    rintro e w18 ⟨rfl, hg18⟩
    obtain ⟨kA18, mA18, jA18⟩ := box_kept w.heap.size hg18 (by first | (simp; done) | (simp; omega) | omega)
    obtain ⟨kB18, mB18, jB18⟩ := box_kept (w.heap.size + 1) hg18 (by first | (simp; done) | (simp; omega) | omega)
    obtain ⟨kQ18, mQ18, jQ18⟩ := box_kept w2.heap.size hg18 (by first | (simp; done) | (simp; omega) | omega)
    obtain ⟨kR18, mR18, jR18⟩ := box_kept (w2.heap.size + 1) hg18 (by first | (simp; done) | (simp; omega) | omega)
    obtain ⟨kX18, mX18, jX18⟩ := box_kept gX hg18 (by first | (simp; done) | (simp; omega) | omega)
    obtain ⟨kY18, mY18, jY18⟩ := box_kept gY hg18 (by first | (simp; done) | (simp; omega) | omega)
    have F18 : (sgn (iv s16 l16 - iv s17 l17) == 0) = true := by
      rw [sgn_zero, decide_eq_true_eq, HI16.out, HI17.out, HIX.out]; omega
    generalize sgn (iv s16 l16 - iv s17 l17) = z18 at *
    go_wp2_with fail
    refine (cmp_raw sy sr ay ar _ _ _ _ ly lr _ (by exact SY.grown (by repeat (first | exact gb_refl _ _ | apply gb_drew | apply gb_alloc | (refine gb_then ?_ (by assumption) (by simp))))) (by exact SR.grown (by repeat (first | exact gb_refl _ _ | apply gb_drew | apply gb_alloc | (refine gb_then ?_ (by assumption) (by simp)))))).mono ?_
    rintro e w19 ⟨rfl, hg19⟩
    have F19 : (sgn (iv sy ly - iv sr lr) == 0) = true := by
      rw [sgn_zero, decide_eq_true_eq, HIY.out]; omega
    generalize sgn (iv sy ly - iv sr lr) = z19 at *
    by_cases hsd : (sgn (iv sr lr) == 0) = true
    · go_wp2
      go_ret
      exact ⟨by first | rfl | simp, (by repeat (first | exact gb_refl _ _ | apply gb_drew | apply gb_alloc | (refine gb_then ?_ (by assumption) (by simp))))⟩
    · have hse : (sgn (iv sr lr) == sgn (iv s2 x2)) = true := by
        rcases dm_side HDM.out with h | h
        · rw [h] at hsd; exact absurd rfl hsd
        · rw [h]; simp
      rw [Bool.not_eq_true] at hsd
      go_wp2
      go_ret
      exact ⟨by first | rfl | simp, (by repeat (first | exact gb_refl _ _ | apply gb_drew | apply gb_alloc | (refine gb_then ?_ (by assumption) (by simp))))⟩

theorem quotient_walk (s1 s2 : Bool) (a1 a2 : Option Addr) (n1 c1 n2 c2 : Nat) (x1 x2 : List Nat) (w : World) (SA : SL w a1 n1 c1 x1) (SB : SL w a2 n2 c2 x2) (h1 : n1 ≤ 35184372087808) (h2 : n2 ≤ 35184372087808) :
    Calls Try.prog 3 #[.agg #[.bool s1, .slice a1 n1 c1], .agg #[.bool s2, .slice a2 n2 c2]] w fun e w' => e = .returned (.bool true) ∧ w.grownBy w' none := by
  by_cases hz : iv s2 x2 = 0
  · exact quotient_zero s1 s2 a1 a2 n1 c1 n2 c2 x1 x2 w SA SB h1 h2 hz
  · exact quotient_nz s1 s2 a1 a2 n1 c1 n2 c2 x1 x2 w SA SB h1 h2 hz
end Go.Proofs.Ytonfnkchpicoiab
