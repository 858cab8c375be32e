/-
  The reference: Sign, Cmp, Same, Valid, Is; the law's is.
-/
import Derived.Test.YtonfnkchpicoiaaRefIs
namespace Go.Proofs.Ytonfnkchpicoiaa
set_option linter.unusedSimpArgs false
set_option linter.unusedVariables false
open Go.RowKit
attribute [local go_sem ↓] Go.wp_at_zero Go.wp_at_succ

set_option maxHeartbeats 800000 in
theorem rsign_raw (s : Bool) (a : Option Addr) (n c : Nat) (x : List Nat) (w : World) (hx : SL w a n c x) :
    Calls Try.prog 26 #[.agg #[.bool s, .slice a n c]] w (NumPost w (sgn (iv s x))) := by
  have HS := hid (sgn_iv s x)
  by_cases h0 : tr x = []
  · have hl : (((tr x).length : Int) == 0) = true := by rw [h0]; rfl
    rw [if_pos h0] at HS
    go_enter Try.func26, Try.ntmps26
    go_wp2_with (go_at_call 17; refine (rnorm_at s a n c x _ (by exact hx.grown (by repeat (first | exact gb_refl _ _ | apply gb_drew | apply gb_alloc | (refine gb_then ?_ (by assumption) (by simp)))))).mono ?_; rintro e w1 ⟨a1, rfl, ho1, hg1⟩)
    go_ret
    exact ⟨ret_int HS.out.symm, (by repeat (first | exact gb_refl _ _ | apply gb_drew | apply gb_alloc | (refine gb_then ?_ (by assumption) (by simp))))⟩
  · have hl : (((tr x).length : Int) == 0) = false := by
      rw [beq_eq_false_iff_ne]; have := List.length_pos_iff.2 h0; omega
    rw [if_neg h0] at HS
    have hdd : decide (tr x = []) = false := by simpa using h0
    cases s
    all_goals
      simp only [if_true, if_false, Bool.false_eq_true] at HS
      go_enter Try.func26, Try.ntmps26
      go_wp2_with (go_at_call 17; refine (rnorm_at _ a n c x _ (by exact hx.grown (by repeat (first | exact gb_refl _ _ | apply gb_drew | apply gb_alloc | (refine gb_then ?_ (by assumption) (by simp)))))).mono ?_; rintro e w1 ⟨a1, rfl, ho1, hg1⟩)
      go_ret
      exact ⟨ret_int HS.out.symm, (by repeat (first | exact gb_refl _ _ | apply gb_drew | apply gb_alloc | (refine gb_then ?_ (by assumption) (by simp))))⟩

theorem rcmp_signs (s t : Bool) (x y : List Nat) (h : sgn (iv s x) ≠ sgn (iv t y)) : sgn (iv s x - iv t y) = if sgn (iv s x) < sgn (iv t y) then -1 else 1 := by
  generalize iv s x = p at *
  generalize iv t y = q at *
  unfold sgn at *
  repeat' split at h
  all_goals (repeat' split) <;> omega
theorem rcmp_pos (s t : Bool) (x y : List Nat) (h : sgn (iv s x) = sgn (iv t y)) (hp : ¬ sgn (iv s x) < 0) : sgn ((val x : Int) - val y) = sgn (iv s x - iv t y) := by
  have := cmp_pos s t x y h hp
  rwa [val_tr, val_tr] at this
theorem rcmp_neg (s t : Bool) (x y : List Nat) (h : sgn (iv s x) = sgn (iv t y)) (hp : sgn (iv s x) < 0) : - sgn ((val x : Int) - val y) = sgn (iv s x - iv t y) := by
  have := cmp_neg s t x y h hp
  rw [val_tr, val_tr] at this
  rw [← this]
  unfold sgn
  repeat' split
  all_goals omega

set_option maxHeartbeats 1600000 in
theorem rcmp_raw (s t : Bool) (a b : Option Addr) (n c m d : Nat) (x y : List Nat) (w : World) (hx : SL w a n c x) (hy : SL w b m d y) :
    Calls Try.prog 27 #[.agg #[.bool s, .slice a n c], .agg #[.bool t, .slice b m d]] w (NumPost w (sgn (iv s x - iv t y))) := by
  have hb1 := hx.big
  have hb2 := hy.big
  by_cases hst : sgn (iv s x) = sgn (iv t y)
  · have hne : (sgn (iv s x) != sgn (iv t y)) = false := by rw [hst]; simp
    by_cases hp : sgn (iv s x) < 0
    · have HS := hid (rcmp_neg s t x y hst hp)
      have hrg := sgn_range ((val x : Int) - val y)
      obtain ⟨hr1, hr2⟩ := hrg
      clear hst
      go_enter Try.func27, Try.ntmps27
      go_wp2_with (first
        | (go_at_call_of 26 (Value.agg #[Value.bool s, Value.slice a n c]); refine (rsign_raw s a n c x _ (by exact hx.grown (by repeat (first | exact gb_refl _ _ | apply gb_drew | apply gb_alloc | (refine gb_then ?_ (by assumption) (by simp)))))).mono ?_; rintro e w1 ⟨rfl, hg1⟩; obtain ⟨hc1, hf1, hz1⟩ := box_kept w.heap.size hg1 (by first | (simp; done) | (simp; omega) | omega); obtain ⟨hd1, he1, hy1⟩ := box_kept (w.heap.size + 1) hg1 (by first | (simp; done) | (simp; omega) | omega))
        | (go_at_call_of 26 (Value.agg #[Value.bool t, Value.slice b m d]); refine (rsign_raw t b m d y _ (by exact hy.grown (by repeat (first | exact gb_refl _ _ | apply gb_drew | apply gb_alloc | (refine gb_then ?_ (by assumption) (by simp)))))).mono ?_; rintro e w2 ⟨rfl, hg2⟩; obtain ⟨hc2, hf2, hz2⟩ := box_kept w.heap.size hg2 (by first | (simp; done) | (simp; omega) | omega); obtain ⟨hd2, he2, hy2⟩ := box_kept (w.heap.size + 1) hg2 (by first | (simp; done) | (simp; omega) | omega))
        | (go_at_call 53; refine (natCmp_raw a b n m c d x y _ (by exact hx.grown (by repeat (first | exact gb_refl _ _ | apply gb_drew | apply gb_alloc | (refine gb_then ?_ (by assumption) (by simp))))) (by exact hy.grown (by repeat (first | exact gb_refl _ _ | apply gb_drew | apply gb_alloc | (refine gb_then ?_ (by assumption) (by simp))))) (by omega) (by omega)).mono ?_; rintro e w3 ⟨rfl, rfl⟩))
      go_ret
      exact ⟨ret_int HS.out, (by repeat (first | exact gb_refl _ _ | apply gb_drew | apply gb_alloc | (refine gb_then ?_ (by assumption) (by simp))))⟩
    · have HS := hid (rcmp_pos s t x y hst hp)
      clear hst
      go_enter Try.func27, Try.ntmps27
      go_wp2_with (first
        | (go_at_call_of 26 (Value.agg #[Value.bool s, Value.slice a n c]); refine (rsign_raw s a n c x _ (by exact hx.grown (by repeat (first | exact gb_refl _ _ | apply gb_drew | apply gb_alloc | (refine gb_then ?_ (by assumption) (by simp)))))).mono ?_; rintro e w1 ⟨rfl, hg1⟩; obtain ⟨hc1, hf1, hz1⟩ := box_kept w.heap.size hg1 (by first | (simp; done) | (simp; omega) | omega); obtain ⟨hd1, he1, hy1⟩ := box_kept (w.heap.size + 1) hg1 (by first | (simp; done) | (simp; omega) | omega))
        | (go_at_call_of 26 (Value.agg #[Value.bool t, Value.slice b m d]); refine (rsign_raw t b m d y _ (by exact hy.grown (by repeat (first | exact gb_refl _ _ | apply gb_drew | apply gb_alloc | (refine gb_then ?_ (by assumption) (by simp)))))).mono ?_; rintro e w2 ⟨rfl, hg2⟩; obtain ⟨hc2, hf2, hz2⟩ := box_kept w.heap.size hg2 (by first | (simp; done) | (simp; omega) | omega); obtain ⟨hd2, he2, hy2⟩ := box_kept (w.heap.size + 1) hg2 (by first | (simp; done) | (simp; omega) | omega))
        | (go_at_call 53; refine (natCmp_raw a b n m c d x y _ (by exact hx.grown (by repeat (first | exact gb_refl _ _ | apply gb_drew | apply gb_alloc | (refine gb_then ?_ (by assumption) (by simp))))) (by exact hy.grown (by repeat (first | exact gb_refl _ _ | apply gb_drew | apply gb_alloc | (refine gb_then ?_ (by assumption) (by simp))))) (by omega) (by omega)).mono ?_; rintro e w3 ⟨rfl, rfl⟩))
      go_ret
      exact ⟨ret_int HS.out, (by repeat (first | exact gb_refl _ _ | apply gb_drew | apply gb_alloc | (refine gb_then ?_ (by assumption) (by simp))))⟩
  · have HS := hid (rcmp_signs s t x y hst)
    have hne : (sgn (iv s x) != sgn (iv t y)) = true := by rw [bne_iff_ne]; exact hst
    clear hst
    by_cases hlt : sgn (iv s x) < sgn (iv t y)
    all_goals
      simp only [hlt, if_true, if_false] at HS
      go_enter Try.func27, Try.ntmps27
      go_wp2_with (first
        | (go_at_call_of 26 (Value.agg #[Value.bool s, Value.slice a n c]); refine (rsign_raw s a n c x _ (by exact hx.grown (by repeat (first | exact gb_refl _ _ | apply gb_drew | apply gb_alloc | (refine gb_then ?_ (by assumption) (by simp)))))).mono ?_; rintro e w1 ⟨rfl, hg1⟩; obtain ⟨hc1, hf1, hz1⟩ := box_kept w.heap.size hg1 (by first | (simp; done) | (simp; omega) | omega); obtain ⟨hd1, he1, hy1⟩ := box_kept (w.heap.size + 1) hg1 (by first | (simp; done) | (simp; omega) | omega))
        | (go_at_call_of 26 (Value.agg #[Value.bool t, Value.slice b m d]); refine (rsign_raw t b m d y _ (by exact hy.grown (by repeat (first | exact gb_refl _ _ | apply gb_drew | apply gb_alloc | (refine gb_then ?_ (by assumption) (by simp)))))).mono ?_; rintro e w2 ⟨rfl, hg2⟩; obtain ⟨hc2, hf2, hz2⟩ := box_kept w.heap.size hg2 (by first | (simp; done) | (simp; omega) | omega); obtain ⟨hd2, he2, hy2⟩ := box_kept (w.heap.size + 1) hg2 (by first | (simp; done) | (simp; omega) | omega)))
      go_ret
      exact ⟨ret_int HS.out.symm, (by repeat (first | exact gb_refl _ _ | apply gb_drew | apply gb_alloc | (refine gb_then ?_ (by assumption) (by simp))))⟩

theorem sgn_zero (z : Int) : (sgn z == 0) = decide (z = 0) := by
  unfold sgn
  by_cases h : z = 0
  · subst h; rfl
  · have hd : decide (z = 0) = false := by simpa using h
    rw [hd]
    split <;> simp [h]

set_option maxHeartbeats 800000 in
theorem rsame_raw (s t : Bool) (a b : Option Addr) (n c m d : Nat) (x y : List Nat) (w : World) (hx : SL w a n c x) (hy : SL w b m d y) :
    Calls Try.prog 66 #[.agg #[.bool s, .slice a n c], .agg #[.bool t, .slice b m d]] w (BoolPost w (decide (iv s x = iv t y))) := by
  have HS : Hid ((sgn (iv s x - iv t y) == 0) = decide (iv s x = iv t y)) := by
    show _ = _
    rw [sgn_zero]
    congr 1
    simp only [eq_iff_iff]
    omega
  go_enter Try.func66, Try.ntmps66
  go_wp2_with (go_at_call 27; refine (rcmp_raw s t a b n c m d x y _ (by exact hx.grown (by repeat (first | exact gb_refl _ _ | apply gb_drew | apply gb_alloc | (refine gb_then ?_ (by assumption) (by simp))))) (by exact hy.grown (by repeat (first | exact gb_refl _ _ | apply gb_drew | apply gb_alloc | (refine gb_then ?_ (by assumption) (by simp)))))).mono ?_; rintro e w1 ⟨rfl, hg1⟩)
  go_ret
  exact ⟨ret_bool HS.out, (by repeat (first | exact gb_refl _ _ | apply gb_drew | apply gb_alloc | (refine gb_then ?_ (by assumption) (by simp))))⟩

set_option maxHeartbeats 800000 in
theorem rvalid_raw (s : Bool) (a : Option Addr) (n c : Nat) (x : List Nat) (w : World) (hx : SL w a n c x) :
    Calls Try.prog 18 #[.agg #[.bool s, .slice a n c]] w (BoolPost w (Std s x)) := by
  have hl := hx.len
  have HS : Hid (Std s x = (((s && !decide (tr x = [])) == s) && (((tr x).length : Int) == (n : Int)))) := by
    show _ = _
    unfold Std
    by_cases h0 : x.length = 0
    · have hx0 : x = [] := List.length_eq_zero_iff.1 h0
      have ht : tr x = [] := by subst hx0; rfl
      rw [if_pos h0, ht]
      have : n = 0 := by omega
      subst this
      cases s <;> rfl
    · rw [if_neg h0, ← hl]
      by_cases h1 : (tr x).length = x.length
      · have h2 : tr x ≠ [] := by intro e; rw [e] at h1; simp at h1; omega
        rw [h1]
        cases s <;> simp [h2]
      · have : (((tr x).length : Int) == (x.length : Int)) = false := by rw [beq_eq_false_iff_ne]; omega
        rw [this, Bool.and_false]
        simpa using h1
  obtain ⟨s', hs'⟩ : ∃ s', (s && !decide (tr x = [])) = s' := ⟨_, rfl⟩
  rw [hs'] at HS
  have hN : ∀ w' : World, SL w' a n c x → Calls Try.prog 17 #[.agg #[.bool s, .slice a n c]] w' fun e w'' => ∃ a', e = .returned (.agg #[.bool s', .slice a' (tr x).length (tr x).length]) ∧ w'.grownBy w'' none := fun w' h => by
    refine (rnorm_at s a n c x w' h).mono ?_
    rintro e w'' ⟨a', rfl, _, hg⟩
    exact ⟨a', by rw [hs'], hg⟩
  have HN := hid hN
  clear hN hs'
  by_cases hg : (s' == s) = true
  · rw [hg] at HS
    go_enter Try.func18, Try.ntmps18
    go_wp2_with (go_at_call 17; refine (HN.out _ (by exact hx.grown (by repeat (first | exact gb_refl _ _ | apply gb_drew | apply gb_alloc | (refine gb_then ?_ (by assumption) (by simp)))))).mono ?_; rintro e w1 ⟨a1, rfl, hg1⟩; obtain ⟨hc1, hf1, hz1⟩ := box_kept w.heap.size hg1 (by first | (simp; done) | (simp; omega) | omega))
    go_ret
    exact ⟨ret_bool (by rw [HS.out]; simp), (by repeat (first | exact gb_refl _ _ | apply gb_drew | apply gb_alloc | (refine gb_then ?_ (by assumption) (by simp))))⟩
  · rw [Bool.not_eq_true] at hg
    rw [hg] at HS
    go_enter Try.func18, Try.ntmps18
    go_wp2_with (go_at_call 17; refine (HN.out _ (by exact hx.grown (by repeat (first | exact gb_refl _ _ | apply gb_drew | apply gb_alloc | (refine gb_then ?_ (by assumption) (by simp)))))).mono ?_; rintro e w1 ⟨a1, rfl, hg1⟩; obtain ⟨hc1, hf1, hz1⟩ := box_kept w.heap.size hg1 (by first | (simp; done) | (simp; omega) | omega))
    go_ret
    exact ⟨ret_bool (by rw [HS.out]; simp), (by repeat (first | exact gb_refl _ _ | apply gb_drew | apply gb_alloc | (refine gb_then ?_ (by assumption) (by simp))))⟩

set_option maxHeartbeats 1600000 in
theorem ris_raw (s t : Bool) (a b : Option Addr) (n c m d : Nat) (x y : List Nat) (w : World) (hx : SL w a n c x) (hy : SL w b m d y) :
    Calls Try.prog 46 #[.agg #[.bool s, .slice a n c], .agg #[.bool t, .slice b m d]] w (BoolPost w (Std s x && decide (iv s x = iv t y))) := by
  obtain ⟨p, hp⟩ : ∃ p, Std s x = p := ⟨_, rfl⟩
  obtain ⟨q, hq⟩ : ∃ q, decide (iv s x = iv t y) = q := ⟨_, rfl⟩
  have HV : Hid (∀ w' : World, SL w' a n c x → Calls Try.prog 18 #[.agg #[.bool s, .slice a n c]] w' (BoolPost w' p)) := fun w' h => by rw [← hp]; exact rvalid_raw s a n c x w' h
  have HQ : Hid (∀ w' : World, SL w' a n c x → SL w' b m d y → Calls Try.prog 66 #[.agg #[.bool s, .slice a n c], .agg #[.bool t, .slice b m d]] w' (BoolPost w' q)) := fun w' h h' => by rw [← hq]; exact rsame_raw s t a b n c m d x y w' h h'
  rw [hp, hq]
  clear hp hq
  cases p
  all_goals
    go_enter Try.func46, Try.ntmps46
    go_wp2_with (first
      | (go_at_call 18; refine (HV.out _ (by exact hx.grown (by repeat (first | exact gb_refl _ _ | apply gb_drew | apply gb_alloc | (refine gb_then ?_ (by assumption) (by simp)))))).mono ?_; rintro e w1 ⟨rfl, hg1⟩; obtain ⟨hc1, hf1, hz1⟩ := box_kept w.heap.size hg1 (by first | (simp; done) | (simp; omega) | omega); obtain ⟨hd1, he1, hy1⟩ := box_kept (w.heap.size + 1) hg1 (by first | (simp; done) | (simp; omega) | omega))
      | (go_at_call 66; refine (HQ.out _ (by exact hx.grown (by repeat (first | exact gb_refl _ _ | apply gb_drew | apply gb_alloc | (refine gb_then ?_ (by assumption) (by simp))))) (by exact hy.grown (by repeat (first | exact gb_refl _ _ | apply gb_drew | apply gb_alloc | (refine gb_then ?_ (by assumption) (by simp)))))).mono ?_; rintro e w2 ⟨rfl, hg2⟩))
    go_ret
    exact ⟨ret_bool (by simp), (by repeat (first | exact gb_refl _ _ | apply gb_drew | apply gb_alloc | (refine gb_then ?_ (by assumption) (by simp))))⟩

set_option maxHeartbeats 800000 in
theorem is_raw (s t : Bool) (a b : Option Addr) (n c m d : Nat) (x y : List Nat) (w : World) (hx : SL w a n c x) (hy : SL w b m d y) :
    Calls Try.prog 15 #[.agg #[.bool s, .slice a n c], .agg #[.bool t, .slice b m d]] w (BoolPost w (Std s x && decide (iv s x = iv t y))) := by
  have HI : Hid (∀ w' : World, SL w' a n c x → SL w' b m d y → Calls Try.prog 46 #[.agg #[.bool s, .slice a n c], .agg #[.bool t, .slice b m d]] w' (BoolPost w' (Std s x && decide (iv s x = iv t y)))) := fun w' h h' => ris_raw s t a b n c m d x y w' h h'
  generalize (Std s x && decide (iv s x = iv t y)) = p at *
  go_enter Try.func15, Try.ntmps15
  go_wp2_with (go_at_call 46; refine (HI.out _ (by exact hx.grown (by repeat (first | exact gb_refl _ _ | apply gb_drew | apply gb_alloc | (refine gb_then ?_ (by assumption) (by simp))))) (by exact hy.grown (by repeat (first | exact gb_refl _ _ | apply gb_drew | apply gb_alloc | (refine gb_then ?_ (by assumption) (by simp)))))).mono ?_; rintro e w1 ⟨rfl, hg1⟩)
  go_ret
  exact ⟨rfl, (by repeat (first | exact gb_refl _ _ | apply gb_drew | apply gb_alloc | (refine gb_then ?_ (by assumption) (by simp))))⟩

/-- a number that stands as it should is just that number -/
theorem std_of {s : Bool} {l : List Nat} (hn : Nrm l) (hs : s = true → l ≠ []) : Std s l = true := by
  unfold Std
  by_cases h0 : l.length = 0
  · rw [if_pos h0]
    have : l = [] := List.length_eq_zero_iff.1 h0
    cases s
    · rfl
    · exact absurd this (hs rfl)
  · rw [if_neg h0]
    have hl : l ≠ [] := by intro e; rw [e] at h0; simp at h0
    have hnz : l.getD (l.length - 1) 0 ≠ 0 := by
      rcases hn with hn | hn
      · exact absurd hn hl
      · exact hn
    have e : tl l l.length = l.length := by
      obtain ⟨m, hm⟩ : ∃ m, l.length = m + 1 := ⟨l.length - 1, by omega⟩
      rw [hm] at hnz ⊢
      rw [tl, if_neg (by simpa using hnz)]
    rw [tr_length, e]
    simp
end Go.Proofs.Ytonfnkchpicoiaa
