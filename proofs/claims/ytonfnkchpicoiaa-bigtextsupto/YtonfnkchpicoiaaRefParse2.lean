/-
  The reference: Parse.
-/
import Derived.Test.YtonfnkchpicoiaaRefParse
namespace Go.Proofs.Ytonfnkchpicoiaa
set_option linter.unusedSimpArgs false
set_option linter.unusedVariables false
open Go.RowKit
attribute [local go_sem ↓] Go.wp_at_zero Go.wp_at_succ

set_option maxHeartbeats 1600000 in
theorem rparse_no_neg (s t : ByteArray) (w : World) (hs : s.size ≤ maxLen) (h : 0 < s.size) (hz : ((s[0].toNat : Int) == 126) = true) (ht : s.extract 1 s.size = t) (HN : Hid (∀ w, Calls Try.prog 62 #[.string t] w (NPNo w))) :
    Calls Try.prog 36 #[.string s] w (ParseNo w) := by
  have h0 := size1 s h
  unfold maxLen at hs
  have h01 : (1 : Int) ≤ (s.size : Int) := by omega
  go_enter Try.func36, Try.ntmps36
  go_wp2_with (go_at_call 62; refine (HN.out _).mono ?_; rintro e w' ⟨rfl, rfl⟩)
  refine bodyPost_ret (v := .tuple #[.agg #[.bool false, .slice none 0 0], .int .i64 11]) (by simp [results, Try.results36, go_sem]) rfl ⟨rfl, ?_⟩
  exact (by repeat (first | exact gb_refl _ _ | apply gb_drew | apply gb_alloc | (refine gb_then ?_ (by assumption) (by simp))))
set_option maxHeartbeats 1600000 in
theorem rparse_no_pos (s : ByteArray) (w : World) (hs : s.size ≤ maxLen) (h : 0 < s.size) (hz : ((s[0].toNat : Int) == 126) = false) (HN : Hid (∀ w, Calls Try.prog 62 #[.string s] w (NPNo w))) :
    Calls Try.prog 36 #[.string s] w (ParseNo w) := by
  have h0 := size1 s h
  unfold maxLen at hs
  have h01 : (0 : Int) < (s.size : Int) := by omega
  go_enter Try.func36, Try.ntmps36
  go_wp2_with (go_at_call 62; refine (HN.out _).mono ?_; rintro e w' ⟨rfl, rfl⟩)
  refine bodyPost_ret (v := .tuple #[.agg #[.bool false, .slice none 0 0], .int .i64 11]) (by simp [results, Try.results36, go_sem]) rfl ⟨rfl, ?_⟩
  exact (by repeat (first | exact gb_refl _ _ | apply gb_drew | apply gb_alloc | (refine gb_then ?_ (by assumption) (by simp))))
set_option maxHeartbeats 1600000 in
theorem rparse_no_empty (s : ByteArray) (w : World) (h : s.size = 0) : Calls Try.prog 36 #[.string s] w (ParseNo w) := by
  have h0 := size0 s h
  go_enter Try.func36, Try.ntmps36
  go_wp2_with (go_at_call 62; refine (natParse_empty s _ h).mono ?_; rintro e w' ⟨rfl, rfl⟩)
  refine bodyPost_ret (v := .tuple #[.agg #[.bool false, .slice none 0 0], .int .i64 11]) (by simp [results, Try.results36, go_sem]) rfl ⟨rfl, ?_⟩
  exact (by repeat (first | exact gb_refl _ _ | apply gb_drew | apply gb_alloc | (refine gb_then ?_ (by assumption) (by simp))))

set_option maxHeartbeats 1600000 in
theorem rparse_no_zero (s t : ByteArray) (k : Nat) (w : World) (hs : s.size ≤ maxLen) (h : 0 < s.size) (hz : ((s[0].toNat : Int) == 126) = true) (ht : s.extract 1 s.size = t) (HN : Hid (∀ w, Calls Try.prog 62 #[.string t] w (NPYes w 0 k))) :
    Calls Try.prog 36 #[.string s] w (ParseNo w) := by
  have h0 := size1 s h
  unfold maxLen at hs
  have h01 : (1 : Int) ≤ (s.size : Int) := by omega
  go_enter Try.func36, Try.ntmps36
  go_wp2_with (first
    | (go_at_call 62; refine (HN.out _).mono ?_; rintro e w1 ⟨a1, l1, rfl, ho1, hn1, hl1, hv1, hk1, hg1⟩; obtain ⟨hp1, hq1, hr1⟩ := box_kept w.heap.size hg1 (by first | (simp; done) | (simp; omega) | omega); obtain rfl : l1 = [] := val_zero_nrm hn1 hv1)
    | (go_at_call 47; refine (rtrim_raw a1 _ _ [] _ (by exact ho1.sl)).mono ?_; rintro e w2 ⟨g2, rfl, hr2, hB2, hg2⟩; have htr : (tr ([] : List Nat)).length = 0 := rfl; obtain ⟨hp2, hq2, hrr2⟩ := box_kept w.heap.size hg2 (by first | (simp; done) | (simp; omega) | omega)))
  refine bodyPost_ret (v := .tuple #[.agg #[.bool false, .slice none 0 0], .int .i64 11]) (by simp [results, Try.results36, go_sem, hp2, hq2, hrr2, hp1, hq1]) rfl ⟨rfl, ?_⟩
  exact gb_set (gb_set (show w.grownBy w2 none from (by repeat (first | exact gb_refl _ _ | apply gb_drew | apply gb_alloc | (refine gb_then ?_ (by assumption) (by simp))))) _ _ (.inr (Nat.le_refl _))) _ _ (.inr (Nat.le_refl _))

set_option maxHeartbeats 1600000 in
theorem rparse_yes_neg (s t : ByteArray) (z k : Nat) (w : World) (hs : s.size ≤ maxLen) (h : 0 < s.size) (hz : ((s[0].toNat : Int) == 126) = true) (ht : s.extract 1 s.size = t) (hz0 : z ≠ 0) (HN : Hid (∀ w, Calls Try.prog 62 #[.string t] w (NPYes w z k))) :
    Calls Try.prog 36 #[.string s] w (ParseYes w (-(z : Int)) k) := by
  have h0 := size1 s h
  unfold maxLen at hs
  have h01 : (1 : Int) ≤ (s.size : Int) := by omega
  go_enter Try.func36, Try.ntmps36
  go_wp2_with (first
    | (go_at_call 62; refine (HN.out _).mono ?_; rintro e w1 ⟨a1, l1, rfl, ho1, hn1, hl1, hv1, hk1, hg1⟩; have HV1 := hid hv1; clear hv1; obtain ⟨hp1, hq1, hr1⟩ := box_kept w.heap.size hg1 (by first | (simp; done) | (simp; omega) | omega); have htr : (((tr l1).length : Int) == 0) = false := (by rw [beq_eq_false_iff_ne]; intro e; have e0 : tr l1 = [] := List.length_eq_zero_iff.1 (by omega); have := HV1.out; rw [← val_tr, e0] at this; simp [val] at this; omega))
    | (go_at_call 47; refine (rtrim_raw a1 _ _ l1 _ (by exact ho1.sl)).mono ?_; rintro e w2 ⟨g2, rfl, hr2, hB2, hg2⟩; obtain ⟨hp2, hq2, hrr2⟩ := box_kept w.heap.size hg2 (by first | (simp; done) | (simp; omega) | omega))
    | (go_at_call 17; refine (rnorm_raw true a1 _ _ l1 _ (by exact ho1.sl.grown (by repeat (first | exact gb_refl _ _ | apply gb_drew | apply gb_alloc | (refine gb_then ?_ (by assumption) (by simp)))))).mono ?_; rintro e w5 ⟨s5, a5, l5, rfl, ho5, hn5, hs5, hi5, hk5, hg5⟩; have HI5 := hid hi5; clear hi5; obtain ⟨hp5, hq5, hr5⟩ := box_kept w.heap.size hg5 (by first | (simp; done) | (simp; omega) | omega)))
  refine bodyPost_ret (v := .tuple #[.agg #[.bool s5, .slice a5 l5.length l5.length], .int .i64 0]) (by simp [results, Try.results36, go_sem, hp5, hr5, hq5, hp2, hq2, hrr2, hp1, hq1]) rfl ?_
  exact parse_end (by repeat (first | exact gb_refl _ _ | apply gb_drew | apply gb_alloc | (refine gb_then ?_ (by assumption) (by simp)))) ho5 (g := w.heap.size) (by first | (simp; done) | (simp; omega) | omega) (Nat.le_refl _) (by first | (simp; done) | (simp; omega) | omega) hn5 hs5 (by rw [HI5.out]; unfold iv; rw [HV1.out]; simp) (by omega) _ _

set_option maxHeartbeats 1600000 in
theorem rparse_yes_pos (s : ByteArray) (z k : Nat) (w : World) (hs : s.size ≤ maxLen) (h : 0 < s.size) (hz : ((s[0].toNat : Int) == 126) = false) (HN : Hid (∀ w, Calls Try.prog 62 #[.string s] w (NPYes w z k))) :
    Calls Try.prog 36 #[.string s] w (ParseYes w (z : Int) k) := by
  have h0 := size1 s h
  unfold maxLen at hs
  have h01 : (0 : Int) < (s.size : Int) := by omega
  go_enter Try.func36, Try.ntmps36
  go_wp2_with (first
    | (go_at_call 62; refine (HN.out _).mono ?_; rintro e w1 ⟨a1, l1, rfl, ho1, hn1, hl1, hv1, hk1, hg1⟩; have HV1 := hid hv1; clear hv1; obtain ⟨hp1, hq1, hr1⟩ := box_kept w.heap.size hg1 (by first | (simp; done) | (simp; omega) | omega))
    | (go_at_call 17; refine (rnorm_raw false a1 _ _ l1 _ (by exact ho1.sl.grown (by repeat (first | exact gb_refl _ _ | apply gb_drew | apply gb_alloc | (refine gb_then ?_ (by assumption) (by simp)))))).mono ?_; rintro e w5 ⟨s5, a5, l5, rfl, ho5, hn5, hs5, hi5, hk5, hg5⟩; have HI5 := hid hi5; clear hi5; obtain ⟨hp5, hq5, hr5⟩ := box_kept w.heap.size hg5 (by first | (simp; done) | (simp; omega) | omega)))
  refine bodyPost_ret (v := .tuple #[.agg #[.bool s5, .slice a5 l5.length l5.length], .int .i64 0]) (by simp [results, Try.results36, go_sem, hp5, hr5, hq5, hp1, hq1]) rfl ?_
  exact parse_end (by repeat (first | exact gb_refl _ _ | apply gb_drew | apply gb_alloc | (refine gb_then ?_ (by assumption) (by simp)))) ho5 (g := w.heap.size) (by first | (simp; done) | (simp; omega) | omega) (Nat.le_refl _) (by first | (simp; done) | (simp; omega) | omega) hn5 hs5 (by rw [HI5.out]; unfold iv; rw [HV1.out]; simp) (by omega) _ _
end Go.Proofs.Ytonfnkchpicoiaa
