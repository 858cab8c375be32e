/-
  heap's reference: values, graphs that may be; a thing's length, size and header.
-/
import Derived.Test.YtlkbnjdhokjfnaaRMay
import Derived.Test.YtlkbnjdhokjfnaaHWords
namespace Go.Proofs.Ytlkbnjdhokjfnaa
set_option linter.unusedSimpArgs false
set_option linter.unusedVariables false
open Go.RowKit
attribute [local go_sem ↓] Go.wp_at_zero Go.wp_at_succ

set_option maxHeartbeats 2000000 in
set_option maxRecDepth 100000 in
theorem rfits_raw (r : Rf) (n : Nat) (w : World) (hn : n ≤ 1073741824) : Calls Try.prog 57 #[.agg #[.int .i64 r.1, .int .i64 r.2], .int .i64 (n : Int)] w fun e w' => e = .returned (.bool (fitsR n r)) ∧ Tn No w w' := by
  obtain ⟨k, x⟩ := r
  simp only
  by_cases h1 : k = 1
  · subst h1
    by_cases hx : -4611686018427387904 ≤ x
    all_goals
      try rw [Int.not_le] at hx
      go_enter Try.func57, Try.ntmps57
      go_wp2
      go_ret
      exact ⟨ret_bool (by rw [Bool.eq_iff_iff]; simp [fitsR]; try omega), (by repeat (first | exact Tn.refl _ _ | apply Tn.drew | apply Tn.drewN | apply Tn.alloc | (refine Tn.then ?_ (by assumption)) | (refine Tn.thenNo ?_ (by assumption))))⟩
  · have d1 : (k == 1) = false := by simpa using h1
    by_cases h2 : k = 2
    · subst h2
      by_cases hx : 0 ≤ x
      all_goals
        try rw [Int.not_le] at hx
        go_enter Try.func57, Try.ntmps57
        go_wp2
        go_ret
        exact ⟨ret_bool (by rw [Bool.eq_iff_iff]; simp [fitsR]; try omega), (by repeat (first | exact Tn.refl _ _ | apply Tn.drew | apply Tn.drewN | apply Tn.alloc | (refine Tn.then ?_ (by assumption)) | (refine Tn.thenNo ?_ (by assumption))))⟩
    · have d2 : (k == 2) = false := by simpa using h2
      have e : fitsR n (k, x) = false := by simp [fitsR, h1, h2]
      rw [e]
      clear h1 h2 e
      go_enter Try.func57, Try.ntmps57
      go_wp2
      go_ret
      exact ⟨rfl, (by repeat (first | exact Tn.refl _ _ | apply Tn.drew | apply Tn.drewN | apply Tn.alloc | (refine Tn.then ?_ (by assumption)) | (refine Tn.thenNo ?_ (by assumption))))⟩

set_option maxHeartbeats 4000000 in
set_option maxRecDepth 100000 in
theorem rall_raw (v : Value) (l : List Rf) (n : Nat) (w : World) (h : LD 2 eR w v l) (hl : l.length ≤ 1073741824) (hn : n ≤ 1073741824) :
    Calls Try.prog 36 #[v, .int .i64 (n : Int)] w fun e w' => e = .returned (.bool (l.all (fitsR n))) ∧ Tn No w w' := by
  obtain ⟨a, c, rfl, hc, hcm, hat⟩ := h
  have HAT := hid hat
  obtain ⟨m, hm⟩ : ∃ m, l.length = m := ⟨_, rfl⟩
  have HM := hid hm
  rw [hm] at hc hl
  rw [hm]
  have HFT : Hid (∀ (r : Rf) (u : World), Calls Try.prog 57 #[.agg #[.int .i64 r.1, .int .i64 r.2], .int .i64 (n : Int)] u fun e w' => e = .returned (.bool (fitsR n r)) ∧ Tn No u w') := hid (fun r u => rfits_raw r n u hn)
  clear hat hm
  go_enter Try.func36, Try.ntmps36
  go_wp2_with fail
  go_loopw [5] (fun i wr => ∃ k : Nat, k ≤ m ∧ i = .int .i64 (k : Int) ∧ (l.take k).all (fitsR n) = true ∧ Tn No w wr) (fun i _ => m - (intOf i).toNat)
  case atStart => exact ⟨0, by omega, rfl, rfl, Tn.refl _ _⟩
  case round =>
    obtain ⟨k, hk, rfl, hall, ht⟩ := hrel
    by_cases hlt : k < m
    · have hkl : k < l.length := by have := HM.out; omega
      obtain ⟨g, o, rfl, hg, hcell⟩ := HAT.out (by omega)
      obtain ⟨q0, q1⟩ := ref_cells hcell k hkl
      rw [← ht.cell hg (fun e => e)] at q0 q1
      obtain ⟨r, hr⟩ : ∃ r, l[k] = r := ⟨_, rfl⟩
      rw [hr] at q0 q1
      have HC := hid (HFT.out r)
      obtain ⟨b, hb⟩ : ∃ b, fitsR n r = b := ⟨_, rfl⟩
      rw [hb] at HC
      have HTW := hid ht
      have HY : Hid (b = true → (l.take (k + 1)).all (fitsR n) = true) := hid (fun e => all_take_succ hkl hall (by rw [hr, hb]; exact e))
      have HF : Hid (b = false → l.all (fitsR n) = false) := hid (fun e => all_false hkl (by rw [hr, hb]; exact e))
      have hki : (k : Int) < (m : Int) := by omega
      clear hcell HAT hall hr hb hkl ht HFT
      obtain ⟨x, y⟩ := r
      simp only at q0 q1 HC
      cases b
      · go_wp2_with (go_at_call 57; refine (HC.out _).mono ?_; rintro e w2 ⟨rfl, t2⟩; have HT2 := hid t2; clear t2)
        go_ret
        exact ⟨ret_bool (HF.out (by trivial)).symm, HTW.out.then HT2.out⟩
      · go_wp2_with (go_at_call 57; refine (HC.out _).mono ?_; rintro e w2 ⟨rfl, t2⟩; have HT2 := hid t2; clear t2)
        go_roundw
        case rel => exact ⟨k + 1, by omega, by go_num, HY.out (by trivial), HTW.out.then HT2.out⟩
        case measure => simp [intOf]; omega
    · obtain rfl : k = m := by omega
      have HT := hid ht
      have HY := hid hall
      clear ht hall HFT
      go_wp2
      go_ret
      refine ⟨ret_bool ?_, HT.out⟩
      have := HY.out
      rw [List.take_of_length_le (by have := HM.out; omega)] at this
      exact this.symm

set_option maxHeartbeats 2000000 in
set_option maxRecDepth 100000 in
theorem rlength_raw (k tag : Int) (s : ByteArray) (a : Option Addr) (n c : Nat) (w : World) (hs : s.size ≤ 1073741824) (hn : n ≤ 1073741824) :
    Calls Try.prog 32 #[.agg #[.int .i64 k, .int .i64 tag, .string s, .slice a n c]] w fun e w' => e = .returned (.int .i64 (if Hp.isRow k then (s.size : Int) else if k = 8 then (n : Int) + 1 else (n : Int))) ∧ Tn No w w' := by
  obtain ⟨b, hb⟩ : ∃ b, Hp.isRow k = b := ⟨_, rfl⟩
  have HB := hid (fun u => rrows_at hb u)
  cases b
  · by_cases h8 : k = 8
    · subst h8
      go_enter Try.func32, Try.ntmps32
      go_wp2_with (go_at_call 33; refine (HB.out _).mono ?_; rintro e w' ⟨rfl, rfl⟩)
      go_ret
      exact ⟨rfl, (by repeat (first | exact Tn.refl _ _ | apply Tn.drew | apply Tn.drewN | apply Tn.alloc | (refine Tn.then ?_ (by assumption)) | (refine Tn.thenNo ?_ (by assumption))))⟩
    · have d8 : (k == 8) = false := by simpa using h8
      rw [hb]
      simp only [if_neg h8, Bool.false_eq_true, if_false]
      clear hb h8
      go_enter Try.func32, Try.ntmps32
      go_wp2_with (go_at_call 33; refine (HB.out _).mono ?_; rintro e w' ⟨rfl, rfl⟩)
      go_ret
      exact ⟨rfl, (by repeat (first | exact Tn.refl _ _ | apply Tn.drew | apply Tn.drewN | apply Tn.alloc | (refine Tn.then ?_ (by assumption)) | (refine Tn.thenNo ?_ (by assumption))))⟩
  · rw [hb, if_pos rfl]
    clear hb
    go_enter Try.func32, Try.ntmps32
    go_wp2_with (go_at_call 33; refine (HB.out _).mono ?_; rintro e w' ⟨rfl, rfl⟩)
    go_ret
    exact ⟨rfl, (by repeat (first | exact Tn.refl _ _ | apply Tn.drew | apply Tn.drewN | apply Tn.alloc | (refine Tn.then ?_ (by assumption)) | (refine Tn.thenNo ?_ (by assumption))))⟩

theorem len_may {k tag : Int} {s : ByteArray} {n : Nat} (h : mayR k tag s n = true) : (if Hp.isRow k then (s.size : Int) else if k = 8 then (n : Int) + 1 else (n : Int)) = ((lenR k s n : Nat) : Int) ∧ (sizeR k s n : Int) = 8 + 8 * (if Hp.isRow k then ((lenR k s n : Int) + 7) / 8 else (lenR k s n : Int)) := by
  obtain ⟨_, _, h1, h2⟩ := may_bounds h
  have h8 : k = 8 → Hp.isRow k = false := by rintro rfl; rfl
  cases hr : Hp.isRow k with
  | true =>
    have n0 := h1 hr
    have : ¬ k = 8 := fun e => by rw [h8 e] at hr; cases hr
    subst n0
    simp only [lenR, sizeR, if_neg this, if_true]
    refine ⟨by omega, by omega⟩
  | false =>
    have s0 := h2 hr
    subst s0
    have e0 : (ByteArray.mk #[]).size = 0 := rfl
    simp only [lenR, sizeR, e0, Bool.false_eq_true, if_false]
    split <;> refine ⟨by omega, by omega⟩
theorem lenR_le {k : Int} {s : ByteArray} {n : Nat} (hs : s.size ≤ 1073741824) (hn : n ≤ 1073741824) : lenR k s n ≤ 2147483649 := by
  unfold lenR
  split <;> omega

theorem rlen_at {k tag : Int} {s : ByteArray} {n : Nat} (a : Option Addr) (c : Nat) (h : mayR k tag s n = true) (w : World) (hs : s.size ≤ 1073741824) (hn : n ≤ 1073741824) : Calls Try.prog 32 #[.agg #[.int .i64 k, .int .i64 tag, .string s, .slice a n c]] w fun e w' => e = .returned (.int .i64 (lenR k s n : Int)) ∧ Tn No w w' := by
  rw [← (len_may h).1]
  exact rlength_raw k tag s a n c w hs hn

set_option maxHeartbeats 2000000 in
set_option maxRecDepth 100000 in
theorem rSize_raw (k tag : Int) (s : ByteArray) (a : Option Addr) (n c : Nat) (w : World) (hs : s.size ≤ 1073741824) (hn : n ≤ 1073741824) :
    Calls Try.prog 10 #[.agg #[.int .i64 k, .int .i64 tag, .string s, .slice a n c]] w fun e w' => e = .returned (.int .i64 (cond (mayR k tag s n) (sizeR k s n : Int) 0)) ∧ Tn No w w' := by
  have HM := hid (fun u => rmb_raw k tag s a n c u hs)
  have hTN : Hid (∀ o u, Tn No (w.alloc o) u → Tn No w u) := hid (fun o u t => ((Tn.refl No w).alloc o).then t)
  have HC3 : Hid (∀ u, Tn No (w.alloc (.cells #[.int .i64 k, .int .i64 tag, .string s, .slice a n c] 24)) u → u.cell? ⟨w.heap.size, 0, none⟩ = some (.int .i64 k) ∧ u.cell? ⟨w.heap.size, 1, none⟩ = some (.int .i64 tag) ∧ u.cell? ⟨w.heap.size, 2, none⟩ = some (.string s) ∧ u.cell? ⟨w.heap.size, 3, none⟩ = some (.slice a n c) ∧ w.heap.size < u.heap.size) := hid (fun u t => by
    refine ⟨?_, ?_, ?_, ?_, by have := t.size; simp at this; omega⟩ <;> (rw [t.cell (by simp) (fun e => e), World.cell?_alloc_new]; rfl))
  obtain ⟨b, hb⟩ : ∃ b, mayR k tag s n = b := ⟨_, rfl⟩
  rw [hb]
  rw [hb] at HM
  cases b
  · clear hb
    go_enter Try.func10, Try.ntmps10
    go_wp2_with (go_at_call 31; refine (HM.out _).mono ?_; rintro e w2 ⟨rfl, t2⟩; have HT2 := hid t2; clear t2)
    go_ret
    exact ⟨rfl, hTN.out _ _ HT2.out⟩
  · have HL := hid (fun u => rlen_at a c hb u hs hn)
    have HE := hid (len_may hb).2
    have hle := lenR_le (k := k) hs hn
    simp only [cond_true]
    rw [HE.out]
    generalize lenR k s n = L at *
    obtain ⟨q, hq⟩ : ∃ q, Hp.isRow k = q := ⟨_, rfl⟩
    have HB := hid (fun u => rrows_at hq u)
    rw [hq]
    clear hb HE hq
    have hl0 : (0 : Int) ≤ (L : Int) := by omega
    have hl1 : (L : Int) ≤ 2147483649 := by omega
    cases q
    all_goals
      simp only [Bool.false_eq_true, if_false, if_true]
      go_enter Try.func10, Try.ntmps10
      go_wp2_with (first
        | (go_at_call 31; refine (HM.out _).mono ?_; rintro e w2 ⟨rfl, t2⟩; obtain ⟨p0, p1, p2, p3, z2⟩ := HC3.out _ t2; have HT2 := hid t2; have HC4 := hid (fun u t => HC3.out u (t2.then t)); clear t2)
        | (go_at_call 32; refine (HL.out _).mono ?_; rintro e w3 ⟨rfl, t3⟩; obtain ⟨p0, p1, p2, p3, z2⟩ := HC4.out _ t3; have HT3 := hid t3; clear t3)
        | (go_at_call 33; refine (HB.out _).mono ?_; rintro e w4 ⟨rfl, rfl⟩))
      go_ret
      exact ⟨ret_int (by first | rfl | (simp [IntKind.wrap, IntKind.bits, IntKind.signed]; omega) | omega), hTN.out _ _ (HT2.out.then HT3.out)⟩

theorem head_may {k tag : Int} {s : ByteArray} {n : Nat} (h : mayR k tag s n = true) : (headR k tag s n : Int) = 1 + 2 * k + 256 * (if k = 8 then 0 else tag) + (lenR k s n : Int) * 16777216 ∧ 1 ≤ k ∧ k ≤ 8 ∧ 0 ≤ tag ∧ (k ≠ 8 → tag ≤ 65535) := by
  obtain ⟨⟨b1, b2⟩, ⟨b3, b4, b5⟩, _, _⟩ := may_bounds h
  refine ⟨?_, b1, b2, b3, b4⟩
  unfold headR
  split <;> omega

set_option maxHeartbeats 4000000 in
set_option maxRecDepth 100000 in
theorem rHeader_raw (k tag : Int) (s : ByteArray) (a : Option Addr) (n c : Nat) (w : World) (hs : s.size ≤ 1073741824) (hn : n ≤ 1073741824) :
    Calls Try.prog 12 #[.agg #[.int .i64 k, .int .i64 tag, .string s, .slice a n c]] w fun e w' => e = .returned (.int .u64 (cond (mayR k tag s n) (headR k tag s n : Int) 0)) ∧ Tn No w w' := by
  have HM := hid (fun u => rmb_raw k tag s a n c u hs)
  have hTN : Hid (∀ o u, Tn No (w.alloc o) u → Tn No w u) := hid (fun o u t => ((Tn.refl No w).alloc o).then t)
  obtain ⟨W, hW⟩ : ∃ W, w.alloc (.cells #[.int .i64 k, .int .i64 tag, .string s, .slice a n c] 24) = W := ⟨_, rfl⟩
  have HC3 : Hid (∀ u, Tn No W u → u.cell? ⟨w.heap.size, 0, none⟩ = some (.int .i64 k) ∧ u.cell? ⟨w.heap.size, 1, none⟩ = some (.int .i64 tag) ∧ u.cell? ⟨w.heap.size, 2, none⟩ = some (.string s) ∧ u.cell? ⟨w.heap.size, 3, none⟩ = some (.slice a n c) ∧ w.heap.size < u.heap.size) := hid (fun u t => by
    rw [← hW] at t
    refine ⟨?_, ?_, ?_, ?_, by have := t.size; simp at this; omega⟩ <;> (rw [t.cell (by simp) (fun e => e), World.cell?_alloc_new]; rfl))
  obtain ⟨b, hb⟩ : ∃ b, mayR k tag s n = b := ⟨_, rfl⟩
  rw [hb]
  rw [hb] at HM
  cases b
  · clear hb HC3
    subst hW
    go_enter Try.func12, Try.ntmps12
    go_wp2_with (go_at_call 31; refine (HM.out _).mono ?_; rintro e w2 ⟨rfl, t2⟩; have HT2 := hid t2; clear t2)
    go_ret
    exact ⟨rfl, hTN.out _ _ HT2.out⟩
  · have HL : Hid (∀ u u', Tn No W u → Tn No u u' → Calls Try.prog 32 #[.agg #[.int .i64 k, .int .i64 tag, .string s, .slice a n c]] u' fun e w' => e = .returned (.int .i64 (lenR k s n : Int)) ∧ (w'.cell? ⟨w.heap.size, 0, none⟩ = some (.int .i64 k) ∧ w'.cell? ⟨w.heap.size, 1, none⟩ = some (.int .i64 tag) ∧ w'.cell? ⟨w.heap.size, 2, none⟩ = some (.string s) ∧ w'.cell? ⟨w.heap.size, 3, none⟩ = some (.slice a n c) ∧ w.heap.size < w'.heap.size) ∧ Tn No W w') := hid (fun u u' t t' => (rlen_at a c hb u' hs hn).mono (fun e w' ⟨he, tn⟩ => ⟨he, HC3.out _ ((t.then t').then tn), (t.then t').then tn⟩))
    obtain ⟨h1, h2, h3, h4, h5⟩ := head_may hb
    have HE := hid h1
    have hle := lenR_le (k := k) hs hn
    simp only [cond_true]
    rw [HE.out]
    generalize lenR k s n = L at *
    have hTN' : Hid (∀ u, Tn No W u → Tn No w u) := hid (fun u t => by rw [← hW] at t; exact hTN.out _ _ t)
    have HM' := hid (HM.out W)
    clear hb HE h1 hTN HM
    have hl0 : (0 : Int) ≤ (L : Int) := by omega
    have hl1 : (L : Int) ≤ 2147483649 := by omega
    subst hW
    by_cases h8 : k = 8
    · subst h8
      clear h5
      go_enter Try.func12, Try.ntmps12
      go_wp2_with (first
        | (go_at_call 31; refine HM'.out.mono ?_; rintro e w2 ⟨rfl, t2⟩; obtain ⟨p0, p1, p2, p3, z2⟩ := HC3.out _ t2; have HT2 := hid t2; clear t2))
      go_region_held3 (fun w' => w'.cell? ⟨w.heap.size, 0, none⟩ = some (.int .i64 8) ∧ w'.cell? ⟨w.heap.size, 1, none⟩ = some (.int .i64 tag) ∧ w'.cell? ⟨w.heap.size, 2, none⟩ = some (.string s) ∧ w'.cell? ⟨w.heap.size, 3, none⟩ = some (.slice a n c) ∧ w.heap.size < w'.heap.size) (go_keep) (first
        | (go_at_call 32; refine (HL.out w2 _ HT2.out (by repeat (first | exact Tn.refl _ _ | apply Tn.drew | apply Tn.drewN | apply Tn.alloc | (refine Tn.then ?_ (by assumption)) | (refine Tn.thenNo ?_ (by assumption))))).mono ?_; rintro e w3 ⟨rfl, ⟨y0, y1, y2, y3, y4⟩, t3⟩; have HT3 := hid t3; clear t3))
      go_wp2
      go_ret
      exact ⟨ret_int (by simp [IntKind.wrap, IntKind.bits, IntKind.signed]; omega), hTN'.out _ HT3.out⟩
    · have d8 : (k == 8) = false := by simpa using h8
      have h6 := h5 h8
      simp only [if_neg h8]
      clear h5 h8
      go_enter Try.func12, Try.ntmps12
      go_wp2_with (first
        | (go_at_call 31; refine HM'.out.mono ?_; rintro e w2 ⟨rfl, t2⟩; obtain ⟨p0, p1, p2, p3, z2⟩ := HC3.out _ t2; have HT2 := hid t2; clear t2))
      go_region_held3 (fun w' => w'.cell? ⟨w.heap.size, 0, none⟩ = some (.int .i64 k) ∧ w'.cell? ⟨w.heap.size, 1, none⟩ = some (.int .i64 tag) ∧ w'.cell? ⟨w.heap.size, 2, none⟩ = some (.string s) ∧ w'.cell? ⟨w.heap.size, 3, none⟩ = some (.slice a n c) ∧ w.heap.size < w'.heap.size) (go_keep) (first
        | (go_at_call 32; refine (HL.out w2 _ HT2.out (by repeat (first | exact Tn.refl _ _ | apply Tn.drew | apply Tn.drewN | apply Tn.alloc | (refine Tn.then ?_ (by assumption)) | (refine Tn.thenNo ?_ (by assumption))))).mono ?_; rintro e w3 ⟨rfl, ⟨y0, y1, y2, y3, y4⟩, t3⟩; have HT3 := hid t3; clear t3))
      go_wp2
      go_ret
      exact ⟨ret_int (by simp [IntKind.wrap, IntKind.bits, IntKind.signed]; omega), hTN'.out _ HT3.out⟩
end Go.Proofs.Ytlkbnjdhokjfnaa
