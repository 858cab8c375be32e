/-
  SysOpen.
-/
import Derived.Test.YtkbdgdcicflocaaOpen
namespace Go.Proofs.Ytkbdgdcicflocaa
set_option linter.unusedSimpArgs false
set_option linter.unusedVariables false
open Go.RowKit
attribute [local go_sem ↓] Go.wp_at_zero Go.wp_at_succ

def St.openR (S : St) (s : ByteArray) (k : Nat) : St := S.setDe k ⟨4, s, 0⟩
def St.openW (S : St) (s : ByteArray) (k : Nat) : St := ((S.setDe k ⟨5, s, 0⟩).put s.data.toList []).addEv ⟨3, s, []⟩
/-- what SysOpen answers -/
def openRes (S : St) (s : ByteArray) (fl : Int) : Int :=
  if 255 < s.size then -36 else if (fl ≠ 0 ∧ fl ≠ 577) ∨ zb s.data.toList = true then -22 else if s.size = 0 ∨ (fl = 0 ∧ S.has s = false) then -2 else
  match S.free with | none => -24 | some k => (k : Int)
/-- what it leaves -/
def openSt (S : St) (s : ByteArray) (fl : Int) : St :=
  if openRes S s fl < 0 then S else if fl = 0 then S.openR s (openRes S s fl).toNat else S.openW s (openRes S s fl).toNat

def OpenPost (w : World) (p : Nat) (L : Nat → Option Lab) (N : Nat) (S : St) (s : ByteArray) (fl : Int) (e : Ending) (w' : World) : Prop :=
  e = .returned (.int .i64 (openRes S s fl)) ∧ Lft w p L w' (N + 2) (openSt S s fl)

theorem open_no {w w' : World} {p : Nat} {L : Nat → Option Lab} {N : Nat} {S : St} {s : ByteArray} {fl r : Int} (h : PW w p L N S) (t : Tn No w w') (hr : openRes S s fl = r) (h0 : r < 0) : OpenPost w p L N S s fl (.returned (.int .i64 r)) w' := by
  refine ⟨by rw [hr], ?_⟩
  unfold openSt
  rw [hr, if_pos h0]
  exact (h.same t).mono (by omega)

set_option maxHeartbeats 1000000 in
set_option maxRecDepth 100000 in
theorem open_36 (p : Nat) (L : Nat → Option Lab) (N : Nat) (S : St) (s : ByteArray) (fl : Int) (w : World) (h : PW w p L N S) (hs : s.size ≤ maxLen) (h1 : 255 < s.size) :
    Calls Try.prog 21 #[.pointer (some ⟨p, 0, none⟩), .string s, .int .i64 fl] w (OpenPost w p L N S s fl) := by
  unfold maxLen at hs
  have HP := hid h
  clear h
  go_enter Try.func21, Try.ntmps21
  go_wp2
  go_ret
  exact open_no HP.out (by repeat (first | exact Tn.refl _ _ | apply Tn.drew | apply Tn.drewN | apply Tn.alloc | (refine Tn.then ?_ (by assumption)) | (refine Tn.thenNo ?_ (by assumption)))) (by unfold openRes; rw [if_pos h1]) (by omega)

set_option maxHeartbeats 1000000 in
set_option maxRecDepth 100000 in
theorem open_22 (p : Nat) (L : Nat → Option Lab) (N : Nat) (S : St) (s : ByteArray) (fl : Int) (w : World) (h : PW w p L N S) (h1 : s.size ≤ 255) (h2 : (fl ≠ 0 ∧ fl ≠ 577) ∨ zb s.data.toList = true) :
    Calls Try.prog 21 #[.pointer (some ⟨p, 0, none⟩), .string s, .int .i64 fl] w (OpenPost w p L N S s fl) := by
  have HP := hid h
  have hres : openRes S s fl = -22 := by unfold openRes; rw [if_neg (by omega), if_pos h2]
  have HR := hid hres
  clear h hres
  by_cases h3 : fl ≠ 0 ∧ fl ≠ 577
  · have d1 : (fl != 0) = true := by simpa using h3.1
    have d2 : (fl != 577) = true := by simpa using h3.2
    clear h2 h3
    go_enter Try.func21, Try.ntmps21
    go_wp2
    go_ret
    exact open_no HP.out (by repeat (first | exact Tn.refl _ _ | apply Tn.drew | apply Tn.drewN | apply Tn.alloc | (refine Tn.then ?_ (by assumption)) | (refine Tn.thenNo ?_ (by assumption)))) HR.out (by omega)
  · have hz : zb s.data.toList = true := by rcases h2 with h | h; exact absurd h h3; exact h
    clear h2
    by_cases h4 : fl = 0
    · subst h4
      go_enter Try.func21, Try.ntmps21
      go_wp2_with (go_at_call 53; refine (nought_raw _ _).mono ?_; rintro e w1 ⟨rfl, rfl⟩)
      go_ret
      exact open_no HP.out (by repeat (first | exact Tn.refl _ _ | apply Tn.drew | apply Tn.drewN | apply Tn.alloc | (refine Tn.then ?_ (by assumption)) | (refine Tn.thenNo ?_ (by assumption)))) HR.out (by omega)
    · have h5 : fl = 577 := by omega
      subst h5
      go_enter Try.func21, Try.ntmps21
      go_wp2_with (go_at_call 53; refine (nought_raw _ _).mono ?_; rintro e w1 ⟨rfl, rfl⟩)
      go_ret
      exact open_no HP.out (by repeat (first | exact Tn.refl _ _ | apply Tn.drew | apply Tn.drewN | apply Tn.alloc | (refine Tn.then ?_ (by assumption)) | (refine Tn.thenNo ?_ (by assumption)))) HR.out (by omega)

set_option maxHeartbeats 1000000 in
set_option maxRecDepth 100000 in
theorem open_2 (p : Nat) (L : Nat → Option Lab) (N : Nat) (S : St) (s : ByteArray) (fl : Int) (w : World) (h : PW w p L N S) (h1 : s.size ≤ 255) (h2 : fl = 0 ∨ fl = 577) (hz : zb s.data.toList = false) (h3 : s.size = 0 ∨ (fl = 0 ∧ S.has s = false)) :
    Calls Try.prog 21 #[.pointer (some ⟨p, 0, none⟩), .string s, .int .i64 fl] w (OpenPost w p L N S s fl) := by
  have HP := hid h
  have hres : openRes S s fl = -2 := by
    unfold openRes
    rw [if_neg (by omega), if_neg (by rw [hz]; simp; omega), if_pos h3]
  have HR := hid hres
  clear h hres
  by_cases h4 : s.size = 0
  · have he : s.toList = [] := (toList_nil s).2 h4
    clear h4 h3
    rcases h2 with rfl | rfl
    all_goals
      go_enter Try.func21, Try.ntmps21
      go_wp2_with (go_at_call 53; refine (nought_raw _ _).mono ?_; rintro e w1 ⟨rfl, rfl⟩)
      go_ret
      exact open_no HP.out (by repeat (first | exact Tn.refl _ _ | apply Tn.drew | apply Tn.drewN | apply Tn.alloc | (refine Tn.then ?_ (by assumption)) | (refine Tn.thenNo ?_ (by assumption)))) HR.out (by omega)
  · obtain ⟨rfl, hh⟩ : fl = 0 ∧ S.has s = false := by rcases h3 with h | h; exact absurd h h4; exact h
    have he : s.toList.isEmpty = false := by rw [toList_isEmpty]; simpa using h4
    clear h4 h3 h2
    go_enter Try.func21, Try.ntmps21
    go_wp2_with (first
      | (go_at_call 53; refine (nought_raw _ _).mono ?_; rintro e w1 ⟨rfl, rfl⟩)
      | (go_at_call 27; refine (has_raw p L N S s _ (by exact HP.out) (by unfold maxLen; omega)).mono ?_; rintro e w1 ⟨rfl, rfl⟩))
    go_ret
    exact open_no HP.out (by repeat (first | exact Tn.refl _ _ | apply Tn.drew | apply Tn.drewN | apply Tn.alloc | (refine Tn.then ?_ (by assumption)) | (refine Tn.thenNo ?_ (by assumption)))) HR.out (by omega)

set_option maxHeartbeats 1000000 in
set_option maxRecDepth 100000 in
theorem open_24 (p : Nat) (L : Nat → Option Lab) (N : Nat) (S : St) (s : ByteArray) (fl : Int) (w : World) (h : PW w p L N S) (h1 : s.size ≤ 255) (h2 : fl = 577 ∨ fl = 0 ∧ S.has s = true) (hz : zb s.data.toList = false) (h3 : ¬ s.size = 0) (hf : S.free = none) :
    Calls Try.prog 21 #[.pointer (some ⟨p, 0, none⟩), .string s, .int .i64 fl] w (OpenPost w p L N S s fl) := by
  have HP := hid h
  have hres : openRes S s fl = -24 := by
    unfold openRes
    rw [if_neg (by omega), if_neg (by rw [hz]; simp; omega), if_neg (by rcases h2 with rfl | ⟨rfl, e⟩; simp [h3]; simp [h3, e]), hf]
  have HR := hid hres
  have he : s.toList.isEmpty = false := by rw [toList_isEmpty]; simpa using h3
  have hfr : ∀ u, Tn No w u → Calls Try.prog 54 #[.pointer (some ⟨p, 0, none⟩)] u fun e w' => e = .returned (.tuple #[.int .i64 0, .bool false]) ∧ Tn No u w' := fun u t =>
    (free_raw p L N S u (h.no t)).mono (fun e w' ⟨t', r⟩ => by
      rcases r with ⟨k, _, e', _⟩ | ⟨_, e'⟩
      · rw [hf] at e'; cases e'
      · exact ⟨e', t'⟩)
  have HF := hid hfr
  clear h hres hf h3 hfr
  rcases h2 with rfl | ⟨rfl, hh⟩
  all_goals
    go_enter Try.func21, Try.ntmps21
    go_wp2_with (first
      | (go_at_call 53; refine (nought_raw _ _).mono ?_; rintro e w1 ⟨rfl, rfl⟩)
      | (go_at_call 27; refine (has_raw p L N S s _ (by exact HP.out) (by unfold maxLen; omega)).mono ?_; rintro e w1 ⟨rfl, rfl⟩)
      | (go_at_call 54; refine (HF.out _ (by repeat (first | exact Tn.refl _ _ | apply Tn.drew | apply Tn.drewN | apply Tn.alloc | (refine Tn.then ?_ (by assumption)) | (refine Tn.thenNo ?_ (by assumption))))).mono ?_; rintro e w2 ⟨rfl, ht2⟩))
    go_ret
    exact open_no HP.out (by repeat (first | exact Tn.refl _ _ | apply Tn.drew | apply Tn.drewN | apply Tn.alloc | (refine Tn.then ?_ (by assumption)) | (refine Tn.thenNo ?_ (by assumption)))) HR.out (by omega)

end Go.Proofs.Ytkbdgdcicflocaa
