/-
  DivMod of the program, from what divide answers.
-/
import Derived.Test.YtonfnkchpicoiaaDivide
namespace Go.Proofs.Ytonfnkchpicoiaa
set_option linter.unusedSimpArgs false
set_option linter.unusedVariables false
open Go.RowKit
attribute [local go_sem ↓] Go.wp_at_zero Go.wp_at_succ

/-- q and r are quotient, cut downwards, and rest -/
def DM (a b q r : Int) : Prop := a = q * b + r ∧ (0 ≤ r ∧ r < b ∨ b < r ∧ r ≤ 0)

/-- what DivMod answers -/
def DivModPost (w : World) (za zb : Int) (k : Nat) (e : Ending) (w' : World) : Prop :=
  ∃ sq aq lq sr ar lr, e = .returned (.tuple #[.agg #[.bool sq, .slice aq lq.length lq.length], .agg #[.bool sr, .slice ar lr.length lr.length], .int .i64 0]) ∧
    OW w' w.heap.size aq lq.length lq.length lq ∧ OW w' w.heap.size ar lr.length lr.length lr ∧ Apart aq lq.length ar lr.length ∧ Nrm lq ∧ Nrm lr ∧ (sq = true → lq ≠ []) ∧ (sr = true → lr ≠ []) ∧
    DM za zb (iv sq lq) (iv sr lr) ∧ lq.length ≤ k ∧ lr.length ≤ k ∧ w.grownBy w' none

/-- a block of two cells that may be written -/
structure Bx (w : World) (g : Nat) (v0 v1 : Value) : Prop where
  c0 : w.cell? ⟨g, 0, none⟩ = some v0
  c1 : w.cell? ⟨g, 1, none⟩ = some v1
  f0 : w.frozen? ⟨g, 0, none⟩ = false
  f1 : w.frozen? ⟨g, 1, none⟩ = false
  lt : g < w.heap.size
theorem Bx.put {w : World} {g : Nat} {v0 v1 : Value} (h : Bx w g v0 v1) (u0 u1 : Value) : Bx ((w.setCell ⟨g, 0, none⟩ u0).setCell ⟨g, 1, none⟩ u1) g u0 u1 := by
  obtain ⟨h0, h1, h2, h3, h4⟩ := h
  cases hb : w.heap[g]? with
  | none => simp [World.cell?, hb] at h0
  | some o =>
    cases o with
    | cells cs e fr =>
      have e0 : 0 < cs.size := by
        simp only [World.cell?, hb] at h0
        simp at h0
        exact (Array.getElem?_eq_some_iff.1 h0).1
      have e1 : 1 < cs.size := by
        simp only [World.cell?, hb] at h1
        simp at h1
        exact (Array.getElem?_eq_some_iff.1 h1).1
      have hp : ((w.setCell ⟨g, 0, none⟩ u0).setCell ⟨g, 1, none⟩ u1).heap[g]? = some (.cells ((cs.setIfInBounds 0 u0).setIfInBounds 1 u1) e fr) := by
        simp [World.setCell, Array.getElem?_modify, hb]
      refine ⟨?_, ?_, ?_, ?_, by simpa using h4⟩
      · simp only [World.cell?, hp]
        simp [Array.getElem?_setIfInBounds, e0]
      · simp only [World.cell?, hp]
        simp [Array.getElem?_setIfInBounds, e1]
      · simp only [World.frozen?, hp]
        simpa only [World.frozen?, hb] using h2
      · simp only [World.frozen?, hp]
        simpa only [World.frozen?, hb] using h3
    | _ => simp [World.cell?, hb] at h0
theorem Bx.of_block {w w' : World} {g : Nat} {v0 v1 : Value} (h : Bx w g v0 v1) (hb : w'.heap[g]? = w.heap[g]?) (hs : w.heap.size ≤ w'.heap.size) : Bx w' g v0 v1 :=
  ⟨(World.cell?_of_block (w := w) hb).trans h.c0, (World.cell?_of_block (w := w) hb).trans h.c1, (World.frozen?_of_block (w := w) hb).trans h.f0, (World.frozen?_of_block (w := w) hb).trans h.f1, Nat.lt_of_lt_of_le h.lt hs⟩
theorem Bx.kept {w w' : World} {g : Nat} {v0 v1 : Value} {r : Option Nat} (h : Bx w g v0 v1) (hg : w.grownBy w' r) (hr : r ≠ some g) : Bx w' g v0 v1 := h.of_block (hg.block g h.lt (fun e => hr e.symm)) hg.size
theorem Bx.other {w : World} {g g' : Nat} {v0 v1 : Value} (h : Bx w g v0 v1) (hn : g ≠ g') (u0 u1 : Value) : Bx ((w.setCell ⟨g', 0, none⟩ u0).setCell ⟨g', 1, none⟩ u1) g v0 v1 :=
  h.kept (r := some g') (gb_set (gb_set (gb_refl _ _) _ _ (.inl rfl)) _ _ (.inl rfl)) (by simpa using Ne.symm hn)
theorem Bx.new (w : World) (g : Nat) (v0 v1 : Value) (t : TypeId) (hg : w.heap.size = g) : Bx (w.alloc (.cells #[v0, v1] t)) g v0 v1 := by
  subst hg
  have hb : (w.alloc (.cells #[v0, v1] t)).heap[w.heap.size]? = some (.cells #[v0, v1] t (0, 0)) := heap_alloc_new w _
  exact ⟨by simp only [World.cell?, hb]; rfl, by simp only [World.cell?, hb]; rfl, by simp only [World.frozen?, hb]; rfl, by simp only [World.frozen?, hb]; rfl, by simp⟩
theorem Bx.drew {w : World} {g : Nat} {v0 v1 : Value} (h : Bx w g v0 v1) : Bx w.drew g v0 v1 := ⟨h.c0, h.c1, h.f0, h.f1, h.lt⟩

/-- two boxes are written, blocks g and g' alone -/
theorem puts_grown (w : World) (g g' : Nat) (v0 v1 u0 u1 : Value) : ∀ k, k ≠ g → k ≠ g' → ((((w.setCell ⟨g, 0, none⟩ v0).setCell ⟨g, 1, none⟩ v1).setCell ⟨g', 0, none⟩ u0).setCell ⟨g', 1, none⟩ u1).heap[k]? = w.heap[k]? := by
  intro k h1 h2
  rw [Below.heap_setCell _ _ _ _ h2, Below.heap_setCell _ _ _ _ h2, Below.heap_setCell _ _ _ _ h1, Below.heap_setCell _ _ _ _ h1]
theorem puts_new {w0 w : World} {g g' : Nat} (h : w0.grownBy w none) (hg : w0.heap.size ≤ g) (hg' : w0.heap.size ≤ g') (v0 v1 u0 u1 : Value) : w0.grownBy ((((w.setCell ⟨g, 0, none⟩ v0).setCell ⟨g, 1, none⟩ v1).setCell ⟨g', 0, none⟩ u0).setCell ⟨g', 1, none⟩ u1) none :=
  gb_set (gb_set (gb_set (gb_set h _ _ (.inr hg)) _ _ (.inr hg)) _ _ (.inr hg')) _ _ (.inr hg')
/-- what lies behind both stays -/
theorem OW.past {w w' : World} {B g g' : Nat} {a : Option Addr} {n c : Nat} {l : List Nat} (h : OW w B a n c l) (hk : ∀ k, k ≠ g → k ≠ g' → w'.heap[k]? = w.heap[k]?) (hs : w.heap.size ≤ w'.heap.size) (hg : g < B) (hg' : g' < B) : OW w' B a n c l := by
  obtain ⟨⟨h1, h2, h3, h3', h4, h5, b, off, ha, hc⟩, hown⟩ := h
  have hbB : 0 < n → B ≤ b := by
    intro hn
    obtain ⟨g0, o0, L, e, hb, _⟩ := hown hn
    rw [(ha hn).1] at e
    cases e
    exact hb
  refine ⟨⟨h1, h2, h3, h3', h4, h5, b, off, fun hn => ⟨(ha hn).1, Nat.lt_of_lt_of_le (ha hn).2 hs⟩, fun j hj => ?_⟩, fun hn => ?_⟩
  · have := hbB (by omega)
    rw [World.cell?_of_block (w := w) (a := ⟨b, off + j, none⟩) (hk b (by omega) (by omega))]
    exact hc j hj
  · obtain ⟨g0, o0, L, e, hb, ⟨sp, hr⟩, hl⟩ := hown hn
    exact ⟨g0, o0, L, e, hb, ⟨sp, by rw [hk g0 (by omega) (by omega)]; exact hr⟩, hl⟩

/-- what made answers of limbs of the call's own, and where it lies -/
def MadeAt (w : World) (B : Nat) (a0 : Option Addr) (z : Int) (k : Nat) (e : Ending) (w' : World) : Prop :=
  ∃ s a l, e = .returned (.agg #[.bool s, .slice a l.length l.length]) ∧ OW w' B a l.length l.length l ∧ Nrm l ∧ (s = true → l ≠ []) ∧ iv s l = z ∧ l.length ≤ k ∧ (l = [] ∨ a = a0) ∧ w.grownBy w' none
theorem made_at (s : Bool) (B : Nat) (a : Option Addr) (n c : Nat) (l : List Nat) (w : World) (h : OW w B a n c l) :
    Calls Try.prog 43 #[.bool s, .slice a n c] w (MadeAt w B a (iv s l) n) := by
  refine (made_raw s a n c l w h.sl).mono ?_
  rintro e w' ⟨a', rfl, hg, ha⟩
  refine ⟨_, a', tr l, rfl, (h.grown hg).trim ha, nrm_tr l, ?_, iv_tr s l, ?_, ?_, hg⟩
  · intro e; simp at e; exact e.2
  · rw [tr_length, h.sl.len]; exact tl_le l n
  · rcases ha with ha | ha
    · exact .inl ha.1
    · exact .inr ha.2

theorem apart_of {aq ar a4 a5 : Option Addr} {nq nr : Nat} {l4 l5 : List Nat} (h : Apart aq nq ar nr) (h4 : l4 = [] ∨ a4 = aq) (h5 : l5 = [] ∨ a5 = ar) (k4 : l4.length ≤ nq) (k5 : l5.length ≤ nr) : Apart a4 l4.length a5 l5.length := by
  intro hl4 hl5
  rcases h4 with rfl | rfl
  · simp at hl4
  · rcases h5 with rfl | rfl
    · simp at hl5
    · exact h (by omega) (by omega)

theorem dm_same (s : Bool) {x y Q R : List Nat} (h : val (tr x) = val Q * val (tr y) + val R) (hlt : val R < val (tr y)) : DM (iv s x) (iv s y) (iv false Q) (iv s R) := by
  rw [val_tr, val_tr] at h
  rw [val_tr] at hlt
  have e : (val x : Int) = (val Q : Int) * (val y : Int) + (val R : Int) := by exact_mod_cast h
  cases s
  · simp only [iv, if_false, Bool.false_eq_true]
    exact ⟨e, .inl ⟨by omega, by omega⟩⟩
  · simp only [iv, if_true, if_false, Bool.false_eq_true]
    refine ⟨by rw [e, Int.mul_neg]; omega, .inr ⟨by omega, by omega⟩⟩

theorem dm_zero (s t : Bool) {x y Q R : List Nat} (hst : ¬ s = t) (h : val (tr x) = val Q * val (tr y) + val R) (hlt : val R < val (tr y)) (h0 : val R = 0) : DM (iv s x) (iv t y) (iv true Q) (iv s R) := by
  rw [val_tr, val_tr] at h
  rw [val_tr] at hlt
  have e : (val x : Int) = (val Q : Int) * (val y : Int) := by rw [h0, Nat.add_zero] at h; exact_mod_cast h
  cases s <;> cases t
  · exact absurd rfl hst
  · simp only [iv, if_true, if_false, Bool.false_eq_true, h0]
    exact ⟨by rw [e, Int.neg_mul_neg]; simp, .inr ⟨by omega, by omega⟩⟩
  · simp only [iv, if_true, if_false, Bool.false_eq_true, h0]
    exact ⟨by rw [e, Int.neg_mul]; simp, .inl ⟨by omega, by omega⟩⟩
  · exact absurd rfl hst
theorem dm_adj (s t : Bool) {x y Q R : List Nat} (hst : ¬ s = t) (h : val (tr x) = val Q * val (tr y) + val R) (hlt : val R < val (tr y)) (h0 : ¬ val R = 0) : DM (iv s x) (iv t y) (iv true Q - 1) (iv s R + iv t y) := by
  rw [val_tr, val_tr] at h
  rw [val_tr] at hlt
  have e : (val x : Int) = (val Q : Int) * (val y : Int) + (val R : Int) := by exact_mod_cast h
  cases s <;> cases t
  · exact absurd rfl hst
  · simp only [iv, if_true, if_false, Bool.false_eq_true]
    exact ⟨by rw [e, Int.sub_mul, Int.neg_mul_neg]; omega, .inr ⟨by omega, by omega⟩⟩
  · simp only [iv, if_true, if_false, Bool.false_eq_true]
    exact ⟨by rw [e, Int.sub_mul, Int.neg_mul]; omega, .inl ⟨by omega, by omega⟩⟩
  · exact absurd rfl hst
/-- what was made later lies elsewhere -/
theorem apart_new {w w' : World} {B B' n n' c c' : Nat} {a a' : Option Addr} {l l' : List Nat} (h : OW w B a n c l) (h' : OW w' B' a' n' c' l') (hB : w.heap.size ≤ B') : Apart a n a' n' := by
  intro hn hn' g o s g' o' s' e e'
  obtain ⟨g1, o1, L1, e1, _, hr1, _⟩ := h.own hn
  obtain ⟨g2, o2, L2, e2, hb2, _⟩ := h'.own hn'
  have := hr1.lt
  rw [e1] at e
  rw [e2] at e'
  cases e
  cases e'
  omega

/-- both results are told through their cells -/
theorem divmod_end {w w6 : World} {h2 h3 B k : Nat} {za zb : Int} {s4 s5 : Bool} {a4 a5 : Option Addr} {l4 l5 : List Nat} {v0 v1 u0 u1 : Value} (hg : w.grownBy w6 none)
    (o4 : OW w6 B a4 l4.length l4.length l4) (o5 : OW w6 B a5 l5.length l5.length l5) (hap : Apart a4 l4.length a5 l5.length) (n4 : Nrm l4) (n5 : Nrm l5) (hs4 : s4 = true → l4 ≠ []) (hs5 : s5 = true → l5 ≠ [])
    (hdm : DM za zb (iv s4 l4) (iv s5 l5)) (k4 : l4.length ≤ k) (k5 : l5.length ≤ k) (hB : w.heap.size ≤ h2) (hB' : w.heap.size ≤ h3) (h2B : h2 < B) (h3B : h3 < B) :
    DivModPost w za zb k (.returned (.tuple #[.agg #[.bool s4, .slice a4 l4.length l4.length], .agg #[.bool s5, .slice a5 l5.length l5.length], .int .i64 0])) ((((w6.setCell ⟨h2, 0, none⟩ v0).setCell ⟨h2, 1, none⟩ v1).setCell ⟨h3, 0, none⟩ u0).setCell ⟨h3, 1, none⟩ u1).drew := by
  have hp := puts_grown w6 h2 h3 v0 v1 u0 u1
  refine ⟨s4, a4, l4, s5, a5, l5, rfl, ?_, ?_, hap, n4, n5, hs4, hs5, hdm, k4, k5, gb_drew (puts_new hg hB hB' v0 v1 u0 u1)⟩
  · exact ((o4.past hp (by simp) h2B h3B).mono (by omega)).grown (gb_drew (gb_refl _ _))
  · exact ((o5.past hp (by simp) h2B h3B).mono (by omega)).grown (gb_drew (gb_refl _ _))

set_option maxHeartbeats 3200000 in
theorem divmod_raw (s t : Bool) (a b : Option Addr) (n c m d : Nat) (x y : List Nat) (w : World) (hx : SL w a n c x) (hy : SL w b m d y) (h0 : tr y ≠ []) (h1 : n + 5 ≤ 35184372088832) (h1' : m + 5 ≤ 35184372088832)
    (hdiv : ∀ (w : World) (a b : Option Addr), SL w a (tr x).length (tr x).length (tr x) → SL w b (tr y).length (tr y).length (tr y) → (tr x = [] → a = none) →
      Calls Try.prog 57 #[.slice a (tr x).length (tr x).length, .slice b (tr y).length (tr y).length] w (DivPost w (tr x) (tr y))) :
    Calls Try.prog 33 #[.agg #[.bool s, .slice a n c], .agg #[.bool t, .slice b m d]] w (DivModPost w (iv s x) (iv t y) (n + m + 5)) := by
  have hl0 : (((tr y).length : Int) == 0) = false := by rw [beq_eq_false_iff_ne]; have := List.length_pos_iff.2 h0; omega
  have HD := hid hdiv
  have hne1 : ¬ (w.heap.size + 1 + 1 = w.heap.size) := by omega
  have hne2 : ¬ (w.heap.size + 1 + 1 = w.heap.size + 1) := by omega
  have hne3 : ¬ (w.heap.size + 1 + 1 + 1 = w.heap.size) := by omega
  have hne4 : ¬ (w.heap.size + 1 + 1 + 1 = w.heap.size + 1) := by omega
  have hne6 : ¬ (w.heap.size + 1 + 1 = w.heap.size + 1 + 1 + 1) := by omega
  have hne5 : ¬ (w.heap.size + 1 + 1 + 1 = w.heap.size + 1 + 1) := by omega
  clear hdiv
  go_enter Try.func33, Try.ntmps33
  go_wp2
  go_region_held3 (fun w' => w'.cell? ⟨w.heap.size, 1, none⟩ = some (.slice a n c) ∧ w'.cell? ⟨w.heap.size + 1, 1, none⟩ = some (.slice b m d)) (go_keep) (first
    | (go_at_call_of 44 (Value.slice a n c); refine (trim_raw a n c x _ (by exact hx.grown (by repeat (first | exact gb_refl _ _ | apply gb_drew | apply gb_alloc | (refine gb_then ?_ (by assumption) (by simp)))))).mono ?_; rintro e w1 ⟨a1, rfl, rfl, ha1⟩)
    | (go_at_call_of 44 (Value.slice b m d); refine (trim_raw b m d y _ (by exact hy.grown (by repeat (first | exact gb_refl _ _ | apply gb_drew | apply gb_alloc | (refine gb_then ?_ (by assumption) (by simp)))))).mono ?_; rintro e w2 ⟨b1, rfl, rfl, hb1⟩))
  all_goals go_wp2_with (go_at_call 57; refine (HD.out _ a1 b1 (by exact (hx.grown (by repeat (first | exact gb_refl _ _ | apply gb_drew | apply gb_alloc | (refine gb_then ?_ (by assumption) (by simp))))).trim ha1) (by exact (hy.grown (by repeat (first | exact gb_refl _ _ | apply gb_drew | apply gb_alloc | (refine gb_then ?_ (by assumption) (by simp))))).trim hb1) (by intro e; rcases ha1 with h | h; exact h.2; exact absurd e h.1)).mono ?_; rintro e w3 ⟨aq, nq, cq, Q, ar, nr, cr, R, rfl, hoq, hor, hap, hv3, hlt3, hnq, hnr, hg3⟩; have HV3 := hid hv3; clear hv3; obtain ⟨hc3, hf3, hz3⟩ := box_kept w.heap.size hg3 (by first | (simp; done) | (simp; omega) | omega); obtain ⟨hd3, he3, hy3⟩ := box_kept (w.heap.size + 1) hg3 (by first | (simp; done) | (simp; omega) | omega); obtain ⟨hp3, hq3, hr3⟩ := box_kept (w.heap.size + 1 + 1) hg3 (by first | (simp; done) | (simp; omega) | omega); obtain ⟨hi3, hj3, hk3⟩ := box_kept (w.heap.size + 1 + 1 + 1) hg3 (by first | (simp; done) | (simp; omega) | omega))
  all_goals go_region_held3 (fun w' => w'.cell? ⟨w.heap.size, 0, none⟩ = some (.bool s) ∧ w'.cell? ⟨w.heap.size + 1, 0, none⟩ = some (.bool t)) (go_keep) (first
    | (go_at_call_of 43 (Value.slice aq nq cq); refine (made_at _ (w.heap.size + 1 + 1 + 1 + 1) aq nq cq Q _ (by exact (hoq.mono (by first | (simp; done) | (simp; omega) | omega)).grown (by repeat (first | exact gb_refl _ _ | apply gb_drew | apply gb_alloc | (refine gb_then ?_ (by assumption) (by simp)))))).mono ?_; rintro e w4 ⟨s4, a4, l4, rfl, ho4, hn4, hs4, hi4, hk4', ha4, hg4⟩; have HI4 := hid hi4; clear hi4; obtain ⟨hc4, hf4, hz4⟩ := box_kept w.heap.size hg4 (by first | (simp; done) | (simp; omega) | omega); obtain ⟨hd4, he4, hy4⟩ := box_kept (w.heap.size + 1) hg4 (by first | (simp; done) | (simp; omega) | omega); obtain ⟨hp4, hq4, hr4⟩ := box_kept (w.heap.size + 1 + 1) hg4 (by first | (simp; done) | (simp; omega) | omega); obtain ⟨hi4, hj4, hk4⟩ := box_kept (w.heap.size + 1 + 1 + 1) hg4 (by first | (simp; done) | (simp; omega) | omega))
    | (go_at_call_of 43 (Value.slice ar nr cr); refine (made_at _ (w.heap.size + 1 + 1 + 1 + 1) ar nr cr R _ (by exact (hor.mono (by first | (simp; done) | (simp; omega) | omega)).grown (by repeat (first | exact gb_refl _ _ | apply gb_drew | apply gb_alloc | (refine gb_then ?_ (by assumption) (by simp)))))).mono ?_; rintro e w5 ⟨s5, a5, l5, rfl, ho5, hn5, hs5, hi5, hk5', ha5, hg5⟩; have HI5 := hid hi5; clear hi5; obtain ⟨hc5, hf5, hz5⟩ := box_kept w.heap.size hg5 (by first | (simp; done) | (simp; omega) | omega); obtain ⟨hd5, he5, hy5⟩ := box_kept (w.heap.size + 1) hg5 (by first | (simp; done) | (simp; omega) | omega); obtain ⟨hp5, hq5, hr5⟩ := box_kept (w.heap.size + 1 + 1) hg5 (by first | (simp; done) | (simp; omega) | omega); obtain ⟨hi5, hj5, hk5⟩ := box_kept (w.heap.size + 1 + 1 + 1) hg5 (by first | (simp; done) | (simp; omega) | omega)))
  all_goals
    have B2 : Bx w5 (w.heap.size + 1 + 1) (.bool false) (.slice none 0 0) := (Bx.new ((w.alloc (.cells #[.bool s, .slice a n c] 24)).alloc (.cells #[.bool t, .slice b m d] 24)) _ _ _ 24 (by simp)).kept (by repeat (first | exact gb_refl _ _ | apply gb_drew | apply gb_alloc | (refine gb_then ?_ (by assumption) (by simp)))) (by simp)
    have B3 : Bx w5 (w.heap.size + 1 + 1 + 1) (.bool false) (.slice none 0 0) := (Bx.new (((w.alloc (.cells #[.bool s, .slice a n c] 24)).alloc (.cells #[.bool t, .slice b m d] 24)).alloc (.cells #[.bool false, .slice none 0 0] 24)) _ _ _ 24 (by simp)).kept (by repeat (first | exact gb_refl _ _ | apply gb_drew | apply gb_alloc | (refine gb_then ?_ (by assumption) (by simp)))) (by simp)
    have C2 := (B2.put (.bool s4) (.slice a4 l4.length l4.length)).other hne6 (.bool s5) (.slice a5 l5.length l5.length)
    have C3 := (B3.other hne5 (.bool s4) (.slice a4 l4.length l4.length)).put (.bool s5) (.slice a5 l5.length l5.length)
    have K0' : Bx w5 w.heap.size (.bool s) (.slice a n c) := (Bx.new w _ _ _ 24 rfl).kept (by repeat (first | exact gb_refl _ _ | apply gb_drew | apply gb_alloc | (refine gb_then ?_ (by assumption) (by simp)))) (by simp)
    have K1' : Bx w5 (w.heap.size + 1) (.bool t) (.slice b m d) := (Bx.new (w.alloc (.cells #[.bool s, .slice a n c] 24)) _ _ _ 24 (by simp)).kept (by repeat (first | exact gb_refl _ _ | apply gb_drew | apply gb_alloc | (refine gb_then ?_ (by assumption) (by simp)))) (by simp)
    have G0 : w.grownBy w5 none := (by repeat (first | exact gb_refl _ _ | apply gb_drew | apply gb_alloc | (refine gb_then ?_ (by assumption) (by simp))))
    have G5 := puts_grown w5 (w.heap.size + 1 + 1) (w.heap.size + 1 + 1 + 1) (.bool s4) (.slice a4 l4.length l4.length) (.bool s5) (.slice a5 l5.length l5.length)
    have O4 := (ho4.grown hg5).past G5 (by simp) (by omega) (by omega)
    have O5 := ho5.past G5 (by simp) (by omega) (by omega)
    have G6 := puts_new (g := w.heap.size + 1 + 1) (g' := w.heap.size + 1 + 1 + 1) G0 (by omega) (by omega) (.bool s4) (.slice a4 l4.length l4.length) (.bool s5) (.slice a5 l5.length l5.length)
    have K0 := K0'.of_block (G5 w.heap.size (by omega) (by omega)) (by simp)
    have K1 := K1'.of_block (G5 (w.heap.size + 1) (by omega) (by omega)) (by simp)
    generalize (((w5.setCell ⟨w.heap.size + 1 + 1, 0, none⟩ (.bool s4)).setCell ⟨w.heap.size + 1 + 1, 1, none⟩ (.slice a4 l4.length l4.length)).setCell ⟨w.heap.size + 1 + 1 + 1, 0, none⟩ (.bool s5)).setCell ⟨w.heap.size + 1 + 1 + 1, 1, none⟩ (.slice a5 l5.length l5.length) = w6 at *
    have c20 := C2.c0
    have c21 := C2.c1
    have c22 := C2.f0
    have c23 := C2.f1
    have c30 := C3.c0
    have c31 := C3.c1
    have c32 := C3.f0
    have c33 := C3.f1
    have hw6 := C3.lt
    have C0 : Bx w6 w.heap.size (.bool s) (.slice a n c) := K0
    have C1 : Bx w6 (w.heap.size + 1) (.bool t) (.slice b m d) := K1
    have c00 := C0.c0
    have c10 := C1.c0
    have c11 := C1.c1
    have hlr : (tr x).length ≤ n := by rw [tr_length, hx.len]; exact tl_le _ _
    by_cases hst : s = t
    · subst hst
      have hss : (!(s == s)) = false := by simp
      rw [hss] at HI4
      go_wp2
      go_region
      go_wp2
      have D2 := (C2.put (.bool s4) (.slice a4 l4.length l4.length)).other hne6 (.bool s5) (.slice a5 l5.length l5.length)
      have D3 := (C3.other hne5 (.bool s4) (.slice a4 l4.length l4.length)).put (.bool s5) (.slice a5 l5.length l5.length)
      refine bodyPost_ret (v := .tuple #[.agg #[.bool s4, .slice a4 l4.length l4.length], .agg #[.bool s5, .slice a5 l5.length l5.length], .int .i64 0]) (by simp [results, Try.results33, go_sem, D2.c0, D2.c1, D3.c0, D3.c1]) rfl ?_
      exact divmod_end G6 O4 O5 (apart_of hap ha4 ha5 hk4' hk5') hn4 hn5 hs4 hs5 (by rw [HI4.out, HI5.out]; exact dm_same s HV3.out hlt3) (by omega) (by omega) (by omega) (by omega) (by omega) (by omega)
    · have hss : (!(s == t)) = true := by simpa using hst
      rw [hss] at HI4
      by_cases hR : val R = 0
      · have hsg : (sgn (iv s5 l5) != 0) = false := by
          rw [HI5.out]
          have : iv s R = 0 := by unfold iv; rw [hR]; simp
          rw [this]; rfl
        go_wp2_with (go_at_call 19; refine (sign_raw s5 a5 _ _ l5 _ O5.sl).mono ?_; rintro e w7 ⟨rfl, hg7⟩; obtain ⟨hc7, hf7, hz7⟩ := box_kept w.heap.size hg7 (by first | (simp; done) | (simp; omega) | omega); obtain ⟨hd7, he7, hy7⟩ := box_kept (w.heap.size + 1) hg7 (by first | (simp; done) | (simp; omega) | omega); obtain ⟨hp7, hq7, hr7⟩ := box_kept (w.heap.size + 1 + 1) hg7 (by first | (simp; done) | (simp; omega) | omega); obtain ⟨hi7, hj7, hk7⟩ := box_kept (w.heap.size + 1 + 1 + 1) hg7 (by first | (simp; done) | (simp; omega) | omega))
        go_region
        go_wp2
        have D2 := ((C2.kept hg7 (by simp)).put (.bool s4) (.slice a4 l4.length l4.length)).other hne6 (.bool s5) (.slice a5 l5.length l5.length)
        have D3 := ((C3.kept hg7 (by simp)).other hne5 (.bool s4) (.slice a4 l4.length l4.length)).put (.bool s5) (.slice a5 l5.length l5.length)
        refine bodyPost_ret (v := .tuple #[.agg #[.bool s4, .slice a4 l4.length l4.length], .agg #[.bool s5, .slice a5 l5.length l5.length], .int .i64 0]) (by simp [results, Try.results33, go_sem, D2.c0, D2.c1, D3.c0, D3.c1]) rfl ?_
        exact divmod_end (gb_then G6 hg7 (by simp)) (O4.grown hg7) (O5.grown hg7) (apart_of hap ha4 ha5 hk4' hk5') hn4 hn5 hs4 hs5 (by rw [HI4.out, HI5.out]; exact dm_zero s t hst HV3.out hlt3 hR) (by omega) (by omega) (by omega) (by omega) (by omega) (by omega)
      · have hsg : (sgn (iv s5 l5) != 0) = true := by
          rw [bne_iff_ne, HI5.out]
          unfold iv sgn
          split <;> split <;> omega
        go_wp2_with (go_at_call 19; refine (sign_raw s5 a5 _ _ l5 _ O5.sl).mono ?_; rintro e w7 ⟨rfl, hg7⟩; obtain ⟨hc7, hf7, hz7⟩ := box_kept w.heap.size hg7 (by first | (simp; done) | (simp; omega) | omega); obtain ⟨hd7, he7, hy7⟩ := box_kept (w.heap.size + 1) hg7 (by first | (simp; done) | (simp; omega) | omega); obtain ⟨hp7, hq7, hr7⟩ := box_kept (w.heap.size + 1 + 1) hg7 (by first | (simp; done) | (simp; omega) | omega); obtain ⟨hi7, hj7, hk7⟩ := box_kept (w.heap.size + 1 + 1 + 1) hg7 (by first | (simp; done) | (simp; omega) | omega))
        go_region_with (first
          | (go_at_call 10; refine (of_raw 1 _ (by omega) (by omega)).mono ?_; rintro e w8 ⟨s8, a8, l8, rfl, ho8, hn8, hs8, hi8, hk8', ha8, hg8⟩; have HI8 := hid hi8; clear hi8; obtain ⟨hc8, hf8, hz8⟩ := box_kept w.heap.size hg8 (by first | (simp; done) | (simp; omega) | omega); obtain ⟨hd8, he8, hy8⟩ := box_kept (w.heap.size + 1) hg8 (by first | (simp; done) | (simp; omega) | omega); obtain ⟨hp8, hq8, hr8⟩ := box_kept (w.heap.size + 1 + 1) hg8 (by first | (simp; done) | (simp; omega) | omega); obtain ⟨hi8, hj8, hk8⟩ := box_kept (w.heap.size + 1 + 1 + 1) hg8 (by first | (simp; done) | (simp; omega) | omega))
          | (go_at_call 24; refine (sub_raw s4 s8 a4 a8 _ _ _ _ l4 l8 _ (by exact O4.sl.grown (by repeat (first | exact gb_refl _ _ | apply gb_drew | apply gb_alloc | (refine gb_then ?_ (by assumption) (by simp))))) (by exact ho8.sl) (by omega) (by omega)).mono ?_; rintro e w9 ⟨s9, a9, l9, rfl, ho9, hn9, hs9, hi9, hk9', ha9, hg9⟩; have HI9 := hid hi9; clear hi9; obtain ⟨hc9, hf9, hz9⟩ := box_kept w.heap.size hg9 (by first | (simp; done) | (simp; omega) | omega); obtain ⟨hd9, he9, hy9⟩ := box_kept (w.heap.size + 1) hg9 (by first | (simp; done) | (simp; omega) | omega); obtain ⟨hp9, hq9, hr9⟩ := box_kept (w.heap.size + 1 + 1) hg9 (by first | (simp; done) | (simp; omega) | omega); obtain ⟨hi9, hj9, hk9⟩ := box_kept (w.heap.size + 1 + 1 + 1) hg9 (by first | (simp; done) | (simp; omega) | omega))
          | (go_at_call 23; refine (add_raw s5 t a5 b _ _ m d l5 y _ (by exact O5.sl.grown (by repeat (first | exact gb_refl _ _ | apply gb_drew | apply gb_alloc | (refine gb_then ?_ (by assumption) (by simp))))) (by exact hy.grown (by repeat (first | exact gb_refl _ _ | apply gb_drew | apply gb_alloc | (refine gb_then ?_ (by assumption) (by simp))))) (by omega) (by omega)).mono ?_; rintro e w10 ⟨s10, a10, l10, rfl, ho10, hn10, hs10, hi10, hk10', ha10, hg10⟩; have HI10 := hid hi10; clear hi10; obtain ⟨hc10, hf10, hz10⟩ := box_kept w.heap.size hg10 (by first | (simp; done) | (simp; omega) | omega); obtain ⟨hd10, he10, hy10⟩ := box_kept (w.heap.size + 1) hg10 (by first | (simp; done) | (simp; omega) | omega); obtain ⟨hp10, hq10, hr10⟩ := box_kept (w.heap.size + 1 + 1) hg10 (by first | (simp; done) | (simp; omega) | omega); obtain ⟨hi10, hj10, hk10⟩ := box_kept (w.heap.size + 1 + 1 + 1) hg10 (by first | (simp; done) | (simp; omega) | omega)))
        all_goals
          have E2 : Bx w10 (w.heap.size + 1 + 1) (.bool s4) (.slice a4 l4.length l4.length) := C2.kept (by repeat (first | exact gb_refl _ _ | apply gb_drew | apply gb_alloc | (refine gb_then ?_ (by assumption) (by simp)))) (by simp)
          have E3 : Bx w10 (w.heap.size + 1 + 1 + 1) (.bool s5) (.slice a5 l5.length l5.length) := C3.kept (by repeat (first | exact gb_refl _ _ | apply gb_drew | apply gb_alloc | (refine gb_then ?_ (by assumption) (by simp)))) (by simp)
          have F2 := (E2.put (.bool s9) (.slice a9 l9.length l9.length)).other hne6 (.bool s10) (.slice a10 l10.length l10.length)
          have F3 := (E3.other hne5 (.bool s9) (.slice a9 l9.length l9.length)).put (.bool s10) (.slice a10 l10.length l10.length)
          have G9 := puts_grown w10 (w.heap.size + 1 + 1) (w.heap.size + 1 + 1 + 1) (.bool s9) (.slice a9 l9.length l9.length) (.bool s10) (.slice a10 l10.length l10.length)
          have Q9 : OW w10 (w.heap.size + 1 + 1 + 1 + 1) a9 l9.length l9.length l9 := (ho9.grown (by repeat (first | exact gb_refl _ _ | apply gb_drew | apply gb_alloc | (refine gb_then ?_ (by assumption) (by simp))))).mono (by first | (simp; done) | (simp; omega) | omega)
          have Q10 : OW w10 (w.heap.size + 1 + 1 + 1 + 1) a10 l10.length l10.length l10 := ho10.mono (by first | (simp; done) | (simp; omega) | omega)
          have P9 := Q9.past G9 (by simp) (by omega) (by omega)
          have P10 := Q10.past G9 (by simp) (by omega) (by omega)
          have A9 := apart_new ho9 ho10 (by first | (simp; done) | (simp; omega) | omega)
          have G10 : w.grownBy w10 none := (by repeat (first | exact gb_refl _ _ | apply gb_drew | apply gb_alloc | (refine gb_then ?_ (by assumption) (by simp))))
          have G11 := puts_new (g := w.heap.size + 1 + 1) (g' := w.heap.size + 1 + 1 + 1) G10 (by omega) (by omega) (.bool s9) (.slice a9 l9.length l9.length) (.bool s10) (.slice a10 l10.length l10.length)
          generalize (((w10.setCell ⟨w.heap.size + 1 + 1, 0, none⟩ (.bool s9)).setCell ⟨w.heap.size + 1 + 1, 1, none⟩ (.slice a9 l9.length l9.length)).setCell ⟨w.heap.size + 1 + 1 + 1, 0, none⟩ (.bool s10)).setCell ⟨w.heap.size + 1 + 1 + 1, 1, none⟩ (.slice a10 l10.length l10.length) = w11 at *
          have c40 := F2.c0
          have c41 := F2.c1
          have c42 := F2.f0
          have c43 := F2.f1
          have c50 := F3.c0
          have c51 := F3.c1
          have c52 := F3.f0
          have c53 := F3.f1
          go_wp2
          go_region
          go_wp2
          have D2 := (F2.put (.bool s9) (.slice a9 l9.length l9.length)).other hne6 (.bool s10) (.slice a10 l10.length l10.length)
          have D3 := (F3.other hne5 (.bool s9) (.slice a9 l9.length l9.length)).put (.bool s10) (.slice a10 l10.length l10.length)
          refine bodyPost_ret (v := .tuple #[.agg #[.bool s9, .slice a9 l9.length l9.length], .agg #[.bool s10, .slice a10 l10.length l10.length], .int .i64 0]) (by simp [results, Try.results33, go_sem, D2.c0, D2.c1, D3.c0, D3.c1]) rfl ?_
          exact divmod_end G11 P9 P10 A9 hn9 hn10 hs9 hs10 (by rw [HI9.out, HI10.out, HI8.out, HI4.out, HI5.out]; exact dm_adj s t hst HV3.out hlt3 hR) (by omega) (by omega) (by omega) (by omega) (by omega) (by omega)
end Go.Proofs.Ytonfnkchpicoiaa
