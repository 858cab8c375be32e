/-
  Text of the program.
-/
import Derived.Test.YtonfnkchpicoiaaReverse
import Derived.Test.YtonfnkchpicoiaaParse2
import Derived.Laws.BytesArg
namespace Go.Proofs.Ytonfnkchpicoiaa
set_option linter.unusedSimpArgs false
set_option linter.unusedVariables false
open Go.RowKit
attribute [local go_sem ↓] Go.wp_at_zero Go.wp_at_succ

/-- a byte list as bytes -/
def by8 (D : List Nat) : List UInt8 := D.map UInt8.ofNat

theorem conv_own {w : World} {B g n c : Nat} {L : List Nat} (h : w.ownsRow B 5 1 (.slice (some ⟨g, 0, none⟩) n c) n (bl L)) :
    (convert 61 9 (.slice (some ⟨g, 0, none⟩) n c)).run Try.prog w = .ok (.string ⟨(by8 L).toArray⟩) w := by
  have hl : L.length = n := by have := h.1; simpa [bl] using this
  rw [run_convert_bytes_arg (P := Try.prog) w 61 5 Try.underlying61 Try.underlying5 g 0 n c (L.map fun x : Nat => (x : Int)) (by simpa using hl) ?_ 9 Try.underlying9]
  · simp [strOfNums, by8]
  · intro i hi
    rw [Nat.zero_add, h.cellAt i (by omega), bl_get L i (by omega)]
    simp [List.getD_eq_getElem?_getD, List.getElem?_eq_getElem (show i < L.length by omega)]

/-- the decimal text of a number -/
def IsText (z : Int) (t : List UInt8) : Prop :=
  (z = 0 ∧ t = [48]) ∨ (z ≠ 0 ∧ ∃ R : List UInt8, t = (if z < 0 then [126] else []) ++ R ∧ R.all isDig = true ∧ R ≠ [] ∧ R.getD 0 0 ≠ 48 ∧ dval R = z.natAbs)

def TextPost (w : World) (z : Int) (k : Nat) (e : Ending) (w' : World) : Prop := ∃ t : ByteArray, e = .returned (.string t) ∧ IsText z t.data.toList ∧ t.size ≤ k ∧ w.grownBy w' none

theorem by8_toNat {x : Nat} (h : x ≤ 57) : (UInt8.ofNat x).toNat = x := by
  rw [UInt8.toNat_ofNat']; omega
theorem dval_rev (D : List Nat) (h : Dgs D) : dval (by8 D.reverse) = dvl D := by
  induction D with
  | nil => rfl
  | cons x D ih =>
    have hx := h x (List.mem_cons_self ..)
    have h2 := ih (fun y hy => h y (List.mem_cons_of_mem _ hy))
    have e : by8 (x :: D).reverse = by8 D.reverse ++ [UInt8.ofNat x] := by simp [by8]
    rw [e, dval_snoc, h2, by8_toNat hx.2]
    simp only [dvl]
    omega
theorem dig_rev (D : List Nat) (h : Dgs D) : (by8 D.reverse).all isDig = true := by
  rw [List.all_eq_true]
  intro c hc
  simp only [by8, List.mem_map, List.mem_reverse] at hc
  obtain ⟨x, hx, rfl⟩ := hc
  have := h x hx
  simp [isDig, by8_toNat this.2]
  omega
theorem text_ok (s : Bool) (D x : List Nat) (h : Dgs D) (hp : 0 < D.length) (hl : D.getD (D.length - 1) 0 ≠ 48) (hv : dvl D = val x) (hx : val x ≠ 0) : IsText (iv s x) ((if s = true then [126] else []) ++ by8 D.reverse) := by
  right
  have hz : iv s x ≠ 0 := by unfold iv; split <;> omega
  refine ⟨hz, by8 D.reverse, ?_, dig_rev D h, ?_, ?_, ?_⟩
  · congr 1
    unfold iv
    cases s
    · first | (simp; done) | (simp; omega)
    · first | (simp; done) | (simp; omega)
  · intro e
    have := congrArg List.length e
    simp [by8] at this
    rw [this] at hp
    simp at hp
  · have hg : D.getD (D.length - 1) 0 = D[D.length - 1]'(by omega) := by
      rw [List.getD_eq_getElem?_getD, List.getElem?_eq_getElem (by omega)]; rfl
    have hd := h (D[D.length - 1]'(by omega)) (List.getElem_mem _)
    rw [hg] at hl
    have e : (by8 D.reverse).getD 0 0 = UInt8.ofNat (D[D.length - 1]'(by omega)) := by
      rw [List.getD_eq_getElem?_getD, List.getElem?_eq_getElem (by simpa [by8] using hp)]
      simp [by8]
    rw [e]
    intro e2
    have := congrArg UInt8.toNat e2
    rw [by8_toNat hd.2] at this
    exact hl this
  · rw [dval_rev D h, hv]
    unfold iv
    cases s <;> simp

set_option maxHeartbeats 1600000 in
theorem text_zero (s : Bool) (a : Option Addr) (n c : Nat) (x : List Nat) (w : World) (hx : SL w a n c x) (h0 : tr x = []) :
    Calls Try.prog 37 #[.agg #[.bool s, .slice a n c]] w (TextPost w (iv s x) (11 * n + 20)) := by
  have HZ : Hid (iv s x = 0) := by
    have : val x = 0 := by rw [← val_tr, h0]; rfl
    show _ = _
    unfold iv; rw [this]; simp
  have hl : (((tr x).length : Int) == 0) = true := by rw [h0]; rfl
  go_enter Try.func37, Try.ntmps37
  go_wp2_with (go_at_call 44; refine (trim_raw a n c x _ (by exact hx.grown (by repeat (first | exact gb_refl _ _ | apply gb_drew | apply gb_alloc | (refine gb_then ?_ (by assumption) (by simp)))))).mono ?_; rintro e w1 ⟨a1, rfl, rfl, ha1⟩)
  go_ret
  exact ⟨⟨#[48]⟩, rfl, .inl ⟨HZ.out, rfl⟩, by show 1 ≤ _; omega, (by repeat (first | exact gb_refl _ _ | apply gb_drew | apply gb_alloc | (refine gb_then ?_ (by assumption) (by simp))))⟩

set_option maxHeartbeats 1600000 in
theorem text_pos (a : Option Addr) (n c : Nat) (x : List Nat) (w : World) (hx : SL w a n c x) (h0 : tr x ≠ []) (hb : n ≤ 1000000000000) :
    Calls Try.prog 37 #[.agg #[.bool false, .slice a n c]] w (TextPost w (iv false x) (11 * n + 20)) := by
  have hl : (((tr x).length : Int) == 0) = false := by rw [beq_eq_false_iff_ne]; have := List.length_pos_iff.2 h0; omega
  have htx := tr_le x
  have hxl := hx.len
  go_enter Try.func37, Try.ntmps37
  go_wp2_with (first
    | (go_at_call 44; refine (trim_raw a n c x _ (by exact hx.grown (by repeat (first | exact gb_refl _ _ | apply gb_drew | apply gb_alloc | (refine gb_then ?_ (by assumption) (by simp)))))).mono ?_; rintro e w1 ⟨a1, rfl, rfl, ha1⟩)
    | (go_at_call 63; refine (digits_raw a1 _ _ (tr x) _ (by exact (hx.grown (by repeat (first | exact gb_refl _ _ | apply gb_drew | apply gb_alloc | (refine gb_then ?_ (by assumption) (by simp))))).trim ha1) (nrm_tr x) h0 (by omega)).mono ?_; rintro e w2 ⟨g2, n2, c2, D, rfl, ho2, hD, hn2, hl2, hv2, hk2, hg2⟩; have HV2 := hid hv2; clear hv2; obtain ⟨hp2, hq2, hr2⟩ := box_kept w.heap.size hg2 (by first | (simp; done) | (simp; omega) | omega))
    | (go_at_call 64; refine (reverse_raw _ g2 n2 c2 D _ ho2 hn2 (by omega)).mono ?_; rintro e w3 ⟨rfl, ho3, hg3⟩; have hcv := conv_own ho3))
  go_ret
  have hnD : D.length = n2 := by have := ho2.1; simpa [bl] using this
  have G3 : w.grownBy w3 none := gb_then (gb_then (gb_alloc (gb_refl w none) _) hg2 (by simp)) hg3 (fun i e => by cases e; have := (ho2.lt g2 rfl).1; simp at this; omega)
  exact ⟨_, rfl, text_ok false D x hD (by omega) (by rw [hnD]; exact hl2) (by rw [HV2.out, val_tr]) (fun e => h0 (val_zero_nrm (nrm_tr x) (by rw [val_tr]; exact e))), by show (by8 D.reverse).toArray.size ≤ _; simp [by8]; omega, G3⟩

set_option maxHeartbeats 1600000 in
theorem text_neg (a : Option Addr) (n c : Nat) (x : List Nat) (w : World) (hx : SL w a n c x) (h0 : tr x ≠ []) (hb : n ≤ 1000000000000) :
    Calls Try.prog 37 #[.agg #[.bool true, .slice a n c]] w (TextPost w (iv true x) (11 * n + 20)) := by
  obtain ⟨i0, hi, hz0, hz1, hz2⟩ := info_parts u8_info
  have hl : (((tr x).length : Int) == 0) = false := by rw [beq_eq_false_iff_ne]; have := List.length_pos_iff.2 h0; omega
  have htx := tr_le x
  have hxl := hx.len
  go_enter Try.func37, Try.ntmps37
  go_wp2_with (first
    | (go_at_call 44; refine (trim_raw a n c x _ (by exact hx.grown (by repeat (first | exact gb_refl _ _ | apply gb_drew | apply gb_alloc | (refine gb_then ?_ (by assumption) (by simp)))))).mono ?_; rintro e w1 ⟨a1, rfl, rfl, ha1⟩)
    | (go_at_call 63; refine (digits_raw a1 _ _ (tr x) _ (by exact (hx.grown (by repeat (first | exact gb_refl _ _ | apply gb_drew | apply gb_alloc | (refine gb_then ?_ (by assumption) (by simp))))).trim ha1) (nrm_tr x) h0 (by omega)).mono ?_; rintro e w2 ⟨g2, n2, c2, D, rfl, ho2, hD, hn2, hl2, hv2, hk2, hg2⟩; have HV2 := hid hv2; clear hv2; obtain ⟨hp2, hq2, hr2⟩ := box_kept w.heap.size hg2 (by first | (simp; done) | (simp; omega) | omega))
    | (at_builtin; refine wpList_append_lies _ rfl (.tmp 15) (.tmp 16) 61 rfl _ 5 i0 (.int .u8 0) 1 1 Try.underlying61 hi hz0 hz1 hz2 rfl (by decide) (.slice (some ⟨g2, 0, none⟩) n2 c2) n2 (bl D) rfl (ho2.alloc _) ⟨w2.heap.size, 0, none⟩ 1 1 [.int .u8 126] rfl rfl (cell_one_new _ _ _) (by intro u hu; simp at hu; subst hu; rfl) (by omega) (by unfold maxLen; omega) (by omega) (by have := hg2.size; simp at this ⊢; omega) (w2.heap.size + 1) (by simp) ?_; intro g3 c3 w3 ho3 hg3 hat3 hlt3)
    | (go_at_call 64; refine (reverse_raw _ g3 (n2 + 1) c3 (D ++ [126]) _ (by simpa [bl] using ho3) (by omega) (by omega)).mono ?_; rintro e w4 ⟨rfl, ho4, hg4⟩; have hcv := conv_own ho4))
  go_ret
  have hnD : D.length = n2 := by have := ho2.1; simpa [bl] using this
  have hB2 := (ho2.lt g2 rfl).1
  have hB3 := (ho3.lt g3 rfl).1
  simp at hB2 hB3
  have G4 : w.grownBy w4 none := gb_then (gb_then (gb_alloc (gb_then (gb_alloc (gb_refl w none) _) hg2 (by simp)) _) hg3 (fun i e => by cases e; show w.heap.size ≤ g2; omega)) hg4 (fun i e => by cases e; omega)
  have e : by8 (126 :: D.reverse) = [126] ++ by8 D.reverse := rfl
  refine ⟨_, rfl, ?_, by show (by8 (126 :: D.reverse)).toArray.size ≤ _; simp [by8]; omega, G4⟩
  show IsText _ (by8 (126 :: D.reverse))
  rw [e]
  exact text_ok true D x hD (by omega) (by rw [hnD]; exact hl2) (by rw [HV2.out, val_tr]) (fun e => h0 (val_zero_nrm (nrm_tr x) (by rw [val_tr]; exact e)))

theorem text_raw (s : Bool) (a : Option Addr) (n c : Nat) (x : List Nat) (w : World) (hx : SL w a n c x) (hb : n ≤ 1000000000000) :
    Calls Try.prog 37 #[.agg #[.bool s, .slice a n c]] w (TextPost w (iv s x) (11 * n + 20)) := by
  by_cases h0 : tr x = []
  · exact text_zero s a n c x w hx h0
  · cases s
    · exact text_pos a n c x w hx h0 hb
    · exact text_neg a n c x w hx h0 hb
end Go.Proofs.Ytonfnkchpicoiaa
