/-
  heap: HeapThings, walked.
-/
import Derived.Test.YtlkbnjdhokjfnaaRCheck2
import Derived.Test.YtlkbnjdhokjfnaaHKnown2
namespace Go.Proofs.Ytlkbnjdhokjfnaa
set_option linter.unusedSimpArgs false
set_option linter.unusedVariables false
open Go.RowKit
attribute [local go_sem ↓] Go.wp_at_zero Go.wp_at_succ

def ThgC (k tag : Int) (s : ByteArray) (a : Option Addr) (n c : Nat) (b : Nat) (w' : World) : Prop := w'.cell? ⟨b, 0, none⟩ = some (.int .i64 k) ∧ w'.cell? ⟨b, 1, none⟩ = some (.int .i64 tag) ∧ w'.cell? ⟨b, 2, none⟩ = some (.string s) ∧ w'.cell? ⟨b, 3, none⟩ = some (.slice a n c) ∧
  w'.cell? ⟨b + 1 + 1, 0, none⟩ = some (.slice (some ⟨b + 1, 0, none⟩) 1 1) ∧ w'.cell? ⟨b + 1 + 1, 1, none⟩ = some (.slice none 0 0) ∧ b + 1 + 1 < w'.heap.size

set_option maxHeartbeats 8000000 in
set_option maxRecDepth 100000 in
theorem things_walk (t : Th) (w : World) (h : TA w t) : Calls Try.prog 3 #[t.val] w fun e w' => e = .returned (.bool true) ∧ Tn No w w' := by
  obtain ⟨k, tag, s, rv, refs⟩ := t
  obtain ⟨a, c, hrv⟩ := h.form
  have hb := h.bytes
  have hl := h.len
  simp only at hrv hb hl
  obtain ⟨n, hn⟩ : ∃ n, refs.length = n := ⟨_, rfl⟩
  rw [hn] at hrv hl
  subst hrv
  obtain ⟨w1, h1⟩ : ∃ w1, w.alloc (.cells #[.int .i64 k, .int .i64 tag, .string s, .slice a n c] 24) = w1 := ⟨_, rfl⟩
  obtain ⟨w2, h2⟩ : ∃ w2, w1.alloc (.cells #[.int .i64 k, .int .i64 tag, .string s, .slice a n c] 24) = w2 := ⟨_, rfl⟩
  have s1 : w1.heap.size = w.heap.size + 1 := by rw [← h1]; simp
  have s2 : w2.heap.size = w.heap.size + 1 + 1 := by rw [← h2]; simp [s1]
  obtain ⟨W, hW⟩ : ∃ W, w2.alloc (.cells #[.slice (some ⟨w.heap.size + 1, 0, none⟩) 1 1, .slice none 0 0] 27) = W := ⟨_, rfl⟩
  have s3 : W.heap.size = w.heap.size + 1 + 1 + 1 := by rw [← hW]; simp [s2]
  have t1 : Tn No w w1 := by rw [← h1]; exact (Tn.refl No w).alloc _
  have t2 : Tn No w1 w2 := by rw [← h2]; exact (Tn.refl No w1).alloc _
  have t3 : Tn No w2 W := by rw [← hW]; exact (Tn.refl No w2).alloc _
  have b1 : w1.heap[w.heap.size]? = some (.cells #[.int .i64 k, .int .i64 tag, .string s, .slice a n c] 24 (0, 0)) := by rw [← h1]; exact heap_alloc_new w _
  have b2 : w2.heap[w.heap.size + 1]? = some (.cells #[.int .i64 k, .int .i64 tag, .string s, .slice a n c] 24 (0, 0)) := by rw [← h2, ← s1]; exact heap_alloc_new w1 _
  have b3 : W.heap[w.heap.size + 1 + 1]? = some (.cells #[.slice (some ⟨w.heap.size + 1, 0, none⟩) 1 1, .slice none 0 0] 27 (0, 0)) := by rw [← hW, ← s2]; exact heap_alloc_new w2 _
  have b1' : W.heap[w.heap.size]? = some (.cells #[.int .i64 k, .int .i64 tag, .string s, .slice a n c] 24 (0, 0)) := by rw [t3.block _ (by omega) (fun e => e), t2.block _ (by omega) (fun e => e)]; exact b1
  have b2' : W.heap[w.heap.size + 1]? = some (.cells #[.int .i64 k, .int .i64 tag, .string s, .slice a n c] 24 (0, 0)) := by rw [t3.block _ (by omega) (fun e => e)]; exact b2
  have tW : Tn No w W := (t1.then t2).then t3
  have hG : GA W (.slice (some ⟨w.heap.size + 1, 0, none⟩) 1 1) (.slice none 0 0) [⟨k, tag, s, .slice a n c, refs⟩] [] := by
    refine ⟨⟨_, 1, rfl, by simp, by omega, fun _ => ⟨_, 0, rfl, by omega, ?_⟩⟩, ?_, LD.nil _ _ _, (fun r hr => by cases hr), by simp, by simp⟩
    · intro i hi j hj
      have hi' : i < 1 := hi
      simp only [World.cell?, b2']
      match i, hi', j, hj with
      | 0, _, 0, _ => rfl
      | 0, _, 1, _ => rfl
      | 0, _, 2, _ => rfl
      | 0, _, 3, _ => rfl
    · intro t ht
      simp only [List.mem_singleton] at ht
      subst ht
      exact h.no tW
  have HS : ∀ u, Tn No W u → ThgC k tag s a n c w.heap.size u := fun u t => by
    have z := t.size
    refine ⟨?_, ?_, ?_, ?_, ?_, ?_, by omega⟩
    all_goals
      rw [t.cell (by omega) (fun e => e)]
      first
        | (simp only [World.cell?, b1']; rfl)
        | (simp only [World.cell?, b3]; rfl)
  have HZ1 : Hid (∀ u u', Tn No W u → Tn No u u' → Calls Try.prog 9 #[.agg #[.int .i64 k, .int .i64 tag, .string s, .slice a n c]] u' fun e w' => e = .returned (.int .i64 (cond (mayR k tag s n) (sizeR k s n : Int) 0)) ∧ ThgC k tag s a n c w.heap.size w' ∧ Tn No W w') := hid (fun u u' t t' => (Size_raw k tag s a n c u' hb hl).mono (fun e w' ⟨he, tn⟩ => ⟨he, HS _ ((t.then t').then tn), (t.then t').then tn⟩))
  have HZ2 : Hid (∀ u u', Tn No W u → Tn No u u' → Calls Try.prog 10 #[.agg #[.int .i64 k, .int .i64 tag, .string s, .slice a n c]] u' fun e w' => e = .returned (.int .i64 (cond (mayR k tag s n) (sizeR k s n : Int) 0)) ∧ ThgC k tag s a n c w.heap.size w' ∧ Tn No W w') := hid (fun u u' t t' => (rSize_raw k tag s a n c u' hb hl).mono (fun e w' ⟨he, tn⟩ => ⟨he, HS _ ((t.then t').then tn), (t.then t').then tn⟩))
  have HH1 : Hid (∀ u u', Tn No W u → Tn No u u' → Calls Try.prog 11 #[.agg #[.int .i64 k, .int .i64 tag, .string s, .slice a n c]] u' fun e w' => e = .returned (.int .u64 (cond (mayR k tag s n) (headR k tag s n : Int) 0)) ∧ ThgC k tag s a n c w.heap.size w' ∧ Tn No W w') := hid (fun u u' t t' => (Header_raw k tag s a n c u' hb hl).mono (fun e w' ⟨he, tn⟩ => ⟨he, HS _ ((t.then t').then tn), (t.then t').then tn⟩))
  have HH2 : Hid (∀ u u', Tn No W u → Tn No u u' → Calls Try.prog 12 #[.agg #[.int .i64 k, .int .i64 tag, .string s, .slice a n c]] u' fun e w' => e = .returned (.int .u64 (cond (mayR k tag s n) (headR k tag s n : Int) 0)) ∧ ThgC k tag s a n c w.heap.size w' ∧ Tn No W w') := hid (fun u u' t t' => (rHeader_raw k tag s a n c u' hb hl).mono (fun e w' ⟨he, tn⟩ => ⟨he, HS _ ((t.then t').then tn), (t.then t').then tn⟩))
  obtain ⟨X, hX⟩ : ∃ X, cond (mayR k tag s n) (sizeR k s n : Int) 0 = X := ⟨_, rfl⟩
  obtain ⟨Y, hY⟩ : ∃ Y, cond (mayR k tag s n) (headR k tag s n : Int) 0 = Y := ⟨_, rfl⟩
  obtain ⟨Z, hZ⟩ : ∃ Z : Int, cond (mayG [⟨k, tag, s, .slice a n c, refs⟩] []) 0 141 = Z := ⟨_, rfl⟩
  have HC1 : Hid (∀ u u', Tn No W u → Tn No u u' → Calls Try.prog 13 #[.agg #[.slice (some ⟨w.heap.size + 1, 0, none⟩) 1 1, .slice none 0 0]] u' fun e w' => e = .returned (.int .i64 Z) ∧ ThgC k tag s a n c w.heap.size w' ∧ Tn No W w') := hid (fun u u' t t' => (check_raw _ _ _ _ u' (hG.no (t.then t'))).mono (fun e w' ⟨he, tn⟩ => ⟨by rw [he, hZ], HS _ ((t.then t').then tn), (t.then t').then tn⟩))
  have HC2 : Hid (∀ u u', Tn No W u → Tn No u u' → Calls Try.prog 14 #[.agg #[.slice (some ⟨w.heap.size + 1, 0, none⟩) 1 1, .slice none 0 0]] u' fun e w' => e = .returned (.int .i64 Z) ∧ ThgC k tag s a n c w.heap.size w' ∧ Tn No W w') := hid (fun u u' t t' => (rCheck_raw _ _ _ _ u' (hG.no (t.then t'))).mono (fun e w' ⟨he, tn⟩ => ⟨by rw [he, hZ], HS _ ((t.then t').then tn), (t.then t').then tn⟩))
  have HKN : Hid (∀ u u', Tn No W u → Tn No u u' → Calls Try.prog 15 #[] u' fun e w' => e = .returned (.bool true) ∧ ThgC k tag s a n c w.heap.size w' ∧ Tn No W w') := hid (fun u u' t t' => (known_raw u').mono (fun e w' ⟨he, tn⟩ => ⟨he, HS _ ((t.then t').then tn), (t.then t').then tn⟩))
  rw [hX] at HZ1 HZ2
  rw [hY] at HH1 HH2
  have HTW := hid tW
  obtain ⟨S0, S1, S2, S3, S4, S5, S6⟩ := HS W (Tn.refl _ _)
  unfold Th.val
  simp only
  clear h hb hl hn tW hG HS hX hY hZ b1 b2 b3 b1' b2' t1 t2 t3
  subst h1 h2
  clear s1 s2 s3
  have HWW := hid hW
  clear hW
  go_enter Try.func3, Try.ntmps3
  go_wp2_with fail
  rw [HWW.out]
  clear HWW
  go_region_held3 (fun w' => w'.cell? ⟨w.heap.size, 0, none⟩ = some (.int .i64 k) ∧ w'.cell? ⟨w.heap.size, 1, none⟩ = some (.int .i64 tag) ∧ w'.cell? ⟨w.heap.size, 2, none⟩ = some (.string s) ∧ w'.cell? ⟨w.heap.size, 3, none⟩ = some (.slice a n c) ∧ w'.cell? ⟨w.heap.size + 1 + 1, 0, none⟩ = some (.slice (some ⟨w.heap.size + 1, 0, none⟩) 1 1) ∧ w'.cell? ⟨w.heap.size + 1 + 1, 1, none⟩ = some (.slice none 0 0) ∧ w.heap.size + 1 + 1 < w'.heap.size) (go_keep) (first
    | (go_at_call 15; refine (HKN.out w16 _ HT16.out (by repeat (first | exact Tn.refl _ _ | apply Tn.drew | apply Tn.drewN | apply Tn.alloc | (refine Tn.then ?_ (by assumption)) | (refine Tn.thenNo ?_ (by assumption))))).mono ?_; rintro e w17 ⟨rfl, ⟨y0, y1, y2, y3, y4, y5, y6⟩, t17⟩; have HT17 := hid t17; clear t17)
    | (go_at_call 14; refine (HC2.out w15 _ HT15.out (by repeat (first | exact Tn.refl _ _ | apply Tn.drew | apply Tn.drewN | apply Tn.alloc | (refine Tn.then ?_ (by assumption)) | (refine Tn.thenNo ?_ (by assumption))))).mono ?_; rintro e w16 ⟨rfl, ⟨y0, y1, y2, y3, y4, y5, y6⟩, t16⟩; have HT16 := hid t16; clear t16)
    | (go_at_call 13; refine (HC1.out w14 _ HT14.out (by repeat (first | exact Tn.refl _ _ | apply Tn.drew | apply Tn.drewN | apply Tn.alloc | (refine Tn.then ?_ (by assumption)) | (refine Tn.thenNo ?_ (by assumption))))).mono ?_; rintro e w15 ⟨rfl, ⟨y0, y1, y2, y3, y4, y5, y6⟩, t15⟩; have HT15 := hid t15; clear t15)
    | (go_at_call 12; refine (HH2.out w13 _ HT13.out (by repeat (first | exact Tn.refl _ _ | apply Tn.drew | apply Tn.drewN | apply Tn.alloc | (refine Tn.then ?_ (by assumption)) | (refine Tn.thenNo ?_ (by assumption))))).mono ?_; rintro e w14 ⟨rfl, ⟨y0, y1, y2, y3, y4, y5, y6⟩, t14⟩; have HT14 := hid t14; clear t14)
    | (go_at_call 11; refine (HH1.out w12 _ HT12.out (by repeat (first | exact Tn.refl _ _ | apply Tn.drew | apply Tn.drewN | apply Tn.alloc | (refine Tn.then ?_ (by assumption)) | (refine Tn.thenNo ?_ (by assumption))))).mono ?_; rintro e w13 ⟨rfl, ⟨y0, y1, y2, y3, y4, y5, y6⟩, t13⟩; have HT13 := hid t13; clear t13)
    | (go_at_call 10; refine (HZ2.out w11 _ HT11.out (by repeat (first | exact Tn.refl _ _ | apply Tn.drew | apply Tn.drewN | apply Tn.alloc | (refine Tn.then ?_ (by assumption)) | (refine Tn.thenNo ?_ (by assumption))))).mono ?_; rintro e w12 ⟨rfl, ⟨y0, y1, y2, y3, y4, y5, y6⟩, t12⟩; have HT12 := hid t12; clear t12)
    | (go_at_call 9; refine (HZ1.out W _ (Tn.refl No W) (by repeat (first | exact Tn.refl _ _ | apply Tn.drew | apply Tn.drewN | apply Tn.alloc | (refine Tn.then ?_ (by assumption)) | (refine Tn.thenNo ?_ (by assumption))))).mono ?_; rintro e w11 ⟨rfl, ⟨y0, y1, y2, y3, y4, y5, y6⟩, t11⟩; have HT11 := hid t11; clear t11))
  go_wp2
  go_ret
  exact ⟨rfl, HTW.out.then HT17.out⟩
end Go.Proofs.Ytlkbnjdhokjfnaa
