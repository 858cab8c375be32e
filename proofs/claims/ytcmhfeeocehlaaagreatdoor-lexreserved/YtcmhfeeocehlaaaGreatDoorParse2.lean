/-
  Parse of the program.
-/
import Derived.Test.YtcmhfeeocehlaaaGreatDoorParse
namespace Go.Proofs.YtcmhfeeocehlaaaGreatDoor
set_option linter.unusedSimpArgs false
set_option linter.unusedVariables false
open Go.RowKit
attribute [local go_sem ↓] Go.wp_at_zero Go.wp_at_succ

theorem HD.ow {w : World} {B : Nat} {a : Option Addr} {n c : Nat} {l : List Nat} (h : HD w B a n c l) (hn : n ≤ 35184372088832) : OW w B a n c l := by
  have hl := h.len
  have hlim := h.lim
  rcases h.own.2 with ⟨hv, h0⟩ | ⟨g, cap, cur, hv, hb, hg, hnc, hm, hs, ht⟩
  · cases hv
    obtain rfl : l = [] := List.length_eq_zero_iff.1 hl
    exact OW.nil' w B
  · cases hv
    have hr : Row w g (l ++ []) := ⟨cur.toList.drop (n * 1), by rw [hg, List.append_nil, ← ht, List.take_append_drop]⟩
    exact OW.of_row hr hb hl hnc hn hm hlim

/-- what Parse answers of a number's text -/
def ParseYes (w : World) (z : Int) (k : Nat) (e : Ending) (w' : World) : Prop :=
  ∃ s a l, e = .returned (.tuple #[.agg #[.bool s, .slice a l.length l.length], .int .i64 0]) ∧ OW w' w.heap.size a l.length l.length l ∧ Nrm l ∧ (s = true → l ≠ []) ∧ iv s l = z ∧ l.length ≤ k ∧ w.grownBy w' none
/-- and of any other -/
def ParseNo (w : World) (e : Ending) (w' : World) : Prop := e = .returned (.tuple #[.agg #[.bool false, .slice none 0 0], .int .i64 11]) ∧ w.grownBy w' none

set_option maxHeartbeats 1600000 in
theorem parse_no1 (s t : ByteArray) (neg : Bool) (w : World) (ht : t.size ≤ maxLen) (hcut : ∀ w, Calls Tryz.prog 80 #[.string s, .string ⟨#[126]⟩] w fun e w' => e = .returned (.tuple #[.string t, .bool neg]) ∧ w' = w)
    (hd : allDig t.data.toList = false) : Calls Tryz.prog 82 #[.string s] w (ParseNo w) := by
  have HC := hid1 hcut
  clear hcut
  go_enter Tryz.func82, Tryz.ntmps82
  go_wp2_with (first
    | (go_at_call 80; refine (HC.out _).mono ?_; rintro e w' ⟨rfl, rfl⟩)
    | (go_at_call 97; refine (allDigits_raw t _ ht).mono ?_; rintro e w' ⟨rfl, rfl⟩))
  refine bodyPost_ret (v := .tuple #[.agg #[.bool false, .slice none 0 0], .int .i64 11]) (by simp [results, Tryz.results82, go_sem]) rfl ⟨rfl, ?_⟩
  exact (by repeat (first | exact gb_refl _ _ | apply gb_drew | apply gb_alloc | (refine gb_then ?_ (by assumption) (by simp))))

set_option maxHeartbeats 1600000 in
theorem parse_no2 (s t : ByteArray) (neg : Bool) (w : World) (ht : t.size ≤ maxLen) (hcut : ∀ w, Calls Tryz.prog 80 #[.string s, .string ⟨#[126]⟩] w fun e w' => e = .returned (.tuple #[.string t, .bool neg]) ∧ w' = w)
    (hd : allDig t.data.toList = true) (h0 : 0 < t.size) (hz : ((t[0].toNat : Int) == 48) = true) (hs : (s.toList == [48]) = false) : Calls Tryz.prog 82 #[.string s] w (ParseNo w) := by
  have HC := hid1 hcut
  clear hcut
  go_enter Tryz.func82, Tryz.ntmps82
  go_wp2_with (first
    | (go_at_call 80; refine (HC.out _).mono ?_; rintro e w' ⟨rfl, rfl⟩)
    | (go_at_call 97; refine (allDigits_raw t _ ht).mono ?_; rintro e w' ⟨rfl, rfl⟩))
  refine bodyPost_ret (v := .tuple #[.agg #[.bool false, .slice none 0 0], .int .i64 11]) (by simp [results, Tryz.results82, go_sem]) rfl ⟨rfl, ?_⟩
  exact (by repeat (first | exact gb_refl _ _ | apply gb_drew | apply gb_alloc | (refine gb_then ?_ (by assumption) (by simp))))

/-- the tail of Parse that makes the number -/
theorem parse_end {w w5 : World} {g B k : Nat} {z : Int} {s : Bool} {a : Option Addr} {l : List Nat} (hg : w.grownBy w5 none) (ho : OW w5 B a l.length l.length l) (hgB : g < B) (hw : w.heap.size ≤ g) (hB : w.heap.size ≤ B)
    (hn : Nrm l) (hs : s = true → l ≠ []) (hz : iv s l = z) (hk : l.length ≤ k) (v0 v1 : Value) :
    ParseYes w z k (.returned (.tuple #[.agg #[.bool s, .slice a l.length l.length], .int .i64 0])) ((w5.setCell ⟨g, 0, none⟩ v0).setCell ⟨g, 1, none⟩ v1) := by
  have h3 : w5.grownBy ((w5.setCell ⟨g, 0, none⟩ v0).setCell ⟨g, 1, none⟩ v1) (some g) := gb_set (gb_set (gb_refl _ _) _ _ (.inl rfl)) _ _ (.inl rfl)
  exact ⟨s, a, l, rfl, (ho.kept h3 (fun i e => by cases e; exact ho.off hgB)).mono hB, hn, hs, hz, hk, gb_then hg h3 (fun i e => by cases e; exact hw)⟩

theorem iv_dval (neg : Bool) {N : List Nat} {z : Nat} (h : val N = z) : iv neg N = if neg = true then -(z : Int) else (z : Int) := by
  unfold iv; rw [h]

set_option maxHeartbeats 1600000 in
theorem parse_yes1 (s t : ByteArray) (neg : Bool) (w : World) (ht : t.size ≤ 1000000000000) (hcut : ∀ w, Calls Tryz.prog 80 #[.string s, .string ⟨#[126]⟩] w fun e w' => e = .returned (.tuple #[.string t, .bool neg]) ∧ w' = w)
    (hd : allDig t.data.toList = true) (h0 : 0 < t.size) (hz : ((t[0].toNat : Int) == 48) = false) : Calls Tryz.prog 82 #[.string s] w (ParseYes w (if neg = true then -(dval t.data.toList : Int) else (dval t.data.toList : Int)) t.size) := by
  have HC := hid1 hcut
  have had : t.data.toList.all isDig = true := by
    unfold allDig at hd; exact (Bool.and_eq_true_iff.1 hd).1
  have htm : t.size ≤ maxLen := by unfold maxLen; omega
  clear hcut
  generalize hR : (if neg = true then -(dval t.data.toList : Int) else (dval t.data.toList : Int)) = R
  have HR := hid1 hR
  clear hR
  go_enter Tryz.func82, Tryz.ntmps82
  go_wp2_with (first
    | (go_at_call 80; refine (HC.out _).mono ?_; rintro e w' ⟨rfl, rfl⟩)
    | (go_at_call 97; refine (allDigits_raw t _ htm).mono ?_; rintro e w' ⟨rfl, rfl⟩)
    | (go_at_call 99; refine (magnitudeOf_raw t _ ht had).mono ?_; rintro e w3 ⟨a3, n3, c3, N3, rfl, hHD3, hv3, hn3, hg3⟩; have HV3 := hid1 hv3; clear hv3; obtain ⟨hp3, hq3, hr3⟩ := box_kept w.heap.size hg3 (by first | (simp; done) | (simp; omega) | omega))
    | (go_at_call 98; refine (made_own neg _ a3 n3 c3 N3 _ (by exact hHD3.ow (by omega))).mono ?_; rintro e w5 ⟨s5, a5, l5, rfl, ho5, hn5, hs5, hi5, hk5, ha5, hg5⟩; have HI5 := hid1 hi5; clear hi5; obtain ⟨hp5, hq5, hr5⟩ := box_kept w.heap.size hg5 (by first | (simp; done) | (simp; omega) | omega)))
  refine bodyPost_ret (v := .tuple #[.agg #[.bool s5, .slice a5 l5.length l5.length], .int .i64 0]) (by simp [results, Tryz.results82, go_sem, hp5, hr5, hq5, hp3, hq3]) rfl ?_
  exact parse_end (by repeat (first | exact gb_refl _ _ | apply gb_drew | apply gb_alloc | (refine gb_then ?_ (by assumption) (by simp)))) ho5 (g := w.heap.size) (by first | (simp; done) | (simp; omega) | omega) (Nat.le_refl _) (by first | (simp; done) | (simp; omega) | omega) hn5 hs5 (by rw [HI5.out, iv_dval neg HV3.out, HR.out]) (by omega) _ _

set_option maxHeartbeats 1600000 in
theorem parse_yes2 (s t : ByteArray) (neg : Bool) (w : World) (ht : t.size ≤ 1000000000000) (hcut : ∀ w, Calls Tryz.prog 80 #[.string s, .string ⟨#[126]⟩] w fun e w' => e = .returned (.tuple #[.string t, .bool neg]) ∧ w' = w)
    (hd : allDig t.data.toList = true) (h0 : 0 < t.size) (hz : ((t[0].toNat : Int) == 48) = true) (hs : (s.toList == [48]) = true) : Calls Tryz.prog 82 #[.string s] w (ParseYes w (if neg = true then -(dval t.data.toList : Int) else (dval t.data.toList : Int)) t.size) := by
  have HC := hid1 hcut
  have had : t.data.toList.all isDig = true := by
    unfold allDig at hd; exact (Bool.and_eq_true_iff.1 hd).1
  have htm : t.size ≤ maxLen := by unfold maxLen; omega
  clear hcut
  generalize hR : (if neg = true then -(dval t.data.toList : Int) else (dval t.data.toList : Int)) = R
  have HR := hid1 hR
  clear hR
  go_enter Tryz.func82, Tryz.ntmps82
  go_wp2_with (first
    | (go_at_call 80; refine (HC.out _).mono ?_; rintro e w' ⟨rfl, rfl⟩)
    | (go_at_call 97; refine (allDigits_raw t _ htm).mono ?_; rintro e w' ⟨rfl, rfl⟩)
    | (go_at_call 99; refine (magnitudeOf_raw t _ ht had).mono ?_; rintro e w3 ⟨a3, n3, c3, N3, rfl, hHD3, hv3, hn3, hg3⟩; have HV3 := hid1 hv3; clear hv3; obtain ⟨hp3, hq3, hr3⟩ := box_kept w.heap.size hg3 (by first | (simp; done) | (simp; omega) | omega))
    | (go_at_call 98; refine (made_own neg _ a3 n3 c3 N3 _ (by exact hHD3.ow (by omega))).mono ?_; rintro e w5 ⟨s5, a5, l5, rfl, ho5, hn5, hs5, hi5, hk5, ha5, hg5⟩; have HI5 := hid1 hi5; clear hi5; obtain ⟨hp5, hq5, hr5⟩ := box_kept w.heap.size hg5 (by first | (simp; done) | (simp; omega) | omega)))
  refine bodyPost_ret (v := .tuple #[.agg #[.bool s5, .slice a5 l5.length l5.length], .int .i64 0]) (by simp [results, Tryz.results82, go_sem, hp5, hr5, hq5, hp3, hq3]) rfl ?_
  exact parse_end (by repeat (first | exact gb_refl _ _ | apply gb_drew | apply gb_alloc | (refine gb_then ?_ (by assumption) (by simp)))) ho5 (g := w.heap.size) (by first | (simp; done) | (simp; omega) | omega) (Nat.le_refl _) (by first | (simp; done) | (simp; omega) | omega) hn5 hs5 (by rw [HI5.out, iv_dval neg HV3.out, HR.out]) (by omega) _ _
end Go.Proofs.YtcmhfeeocehlaaaGreatDoor
