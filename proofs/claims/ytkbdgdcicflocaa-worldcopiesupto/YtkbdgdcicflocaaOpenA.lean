/-
  SysOpen.
-/
import Derived.Test.YtkbdgdcicflocaaOpen2
namespace Go.Proofs.Ytkbdgdcicflocaa
set_option linter.unusedSimpArgs false
set_option linter.unusedVariables false
open Go.RowKit
attribute [local go_sem ↓] Go.wp_at_zero Go.wp_at_succ

set_option maxHeartbeats 1000000 in
set_option maxRecDepth 100000 in
theorem open_r (p : Nat) (L : Nat → Option Lab) (N : Nat) (S : St) (s : ByteArray) (w : World) (h : PW w p L N S) (h1 : s.size ≤ 255) (hh : S.has s = true) (hz : zb s.data.toList = false) (h3 : ¬ s.size = 0) (k : Nat) (hk : k < 19) (hf : S.free = some k) :
    Calls Try.prog 21 #[.pointer (some ⟨p, 0, none⟩), .string s, .int .i64 0] w (OpenPost w p L N S s 0) := by
  have HP := hid h
  have hres : openRes S s 0 = k := by
    unfold openRes
    rw [if_neg (by omega), if_neg (by rw [hz]; simp), if_neg (by simp [h3, hh]), hf]
  have HR := hid hres
  have he : s.toList.isEmpty = false := by rw [toList_isEmpty]; simpa using h3
  have hfr : ∀ u, Tn No w u → Calls Try.prog 54 #[.pointer (some ⟨p, 0, none⟩)] u fun e w' => e = .returned (.tuple #[.int .i64 (k : Int), .bool true]) ∧ Tn No u w' := fun u t =>
    (free_raw p L N S u (h.no t)).mono (fun e w' ⟨t', r⟩ => by
      rcases r with ⟨k', _, e', e2⟩ | ⟨e', _⟩
      · rw [hf] at e'; cases e'; exact ⟨e2, t'⟩
      · rw [hf] at e'; cases e')
  have HF := hid hfr
  have hcells : ∀ u, Tn No w u → u.cell? ⟨p, 3 + k * 3, none⟩ = some (.int .i64 (S.ds k).kind) ∧ u.cell? ⟨p, 3 + k * 3 + 1, none⟩ = some (.string (S.ds k).name) ∧ u.cell? ⟨p, 3 + k * 3 + 2, none⟩ = some (.int .i64 ((S.ds k).place : Int)) ∧ (∀ j, u.frozen? ⟨p, j, none⟩ = false) ∧ p < u.heap.size := fun u t => by
    obtain ⟨c, mo, iv, tv, vs, hx⟩ := HP.out
    have hu := hx.no t
    obtain ⟨a, b, c⟩ := hu.de k hk
    exact ⟨a, b, c, hu.sc.froz, hu.sc.lt⟩
  have HC := hid hcells
  have hk2 : (k : Int) < 19 := by omega
  have hz2 : ∀ u, Tn No w u → OpenPost w p L N S s 0 (.returned (.int .i64 (k : Int))) (((u.setCell ⟨p, 3 + k * 3, none⟩ (.int .i64 4)).setCell ⟨p, 3 + k * 3 + 1, none⟩ (.string s)).setCell ⟨p, 3 + k * 3 + 2, none⟩ (.int .i64 0)) := fun u t => by
    refine ⟨by rw [HR.out], ?_⟩
    unfold openSt
    rw [HR.out, if_neg (by omega), if_pos (by omega), Int.toNat_natCast]
    have e3 : ((u.setCell ⟨p, 3 + k * 3, none⟩ (.int .i64 4)).setCell ⟨p, 3 + k * 3 + 1, none⟩ (.string s)).setCell ⟨p, 3 + k * 3 + 2, none⟩ (.int .i64 0) = set3 u p k ⟨4, s, 0⟩ := by simp [set3]
    rw [e3]
    obtain ⟨c, mo, iv, tv, vs, hx⟩ := HP.out
    obtain ⟨c', hc'⟩ := (hx.no t).setDe k hk ⟨4, s, 0⟩ (Nat.zero_le _) h1
    exact Lft.mono ⟨L, ⟨_, _, _, _, _, hc'⟩, set3_tn t.any hx.labs k _, fun _ _ e => e⟩ (by omega)
  have HZ := hid hz2
  clear hz2
  clear h hres hf h3 hfr hcells
  go_enter Try.func21, Try.ntmps21
  go_wp2_with (first
    | (go_at_call 53; refine (nought_raw _ _).mono ?_; rintro e w1 ⟨rfl, rfl⟩)
    | (go_at_call 27; refine (has_raw p L N S s _ (by exact HP.out) (by unfold maxLen; omega)).mono ?_; rintro e w1 ⟨rfl, rfl⟩)
    | (go_at_call 54; refine (HF.out _ (by repeat (first | exact Tn.refl _ _ | apply Tn.drew | apply Tn.drewN | apply Tn.alloc | (refine Tn.then ?_ (by assumption)) | (refine Tn.thenNo ?_ (by assumption))))).mono ?_; rintro e w2 ⟨rfl, ht2⟩; obtain ⟨c0, c1, c2, cf, cl⟩ := HC.out w2 (by repeat (first | exact Tn.refl _ _ | apply Tn.drew | apply Tn.drewN | apply Tn.alloc | (refine Tn.then ?_ (by assumption)) | (refine Tn.thenNo ?_ (by assumption))))))
  go_ret
  exact HZ.out w2 ht2
end Go.Proofs.Ytkbdgdcicflocaa
namespace Go.Proofs.Ytkbdgdcicflocaa
set_option linter.unusedSimpArgs false
set_option linter.unusedVariables false
open Go.RowKit
attribute [local go_sem ↓] Go.wp_at_zero Go.wp_at_succ

set_option maxHeartbeats 1000000 in
set_option maxRecDepth 100000 in
theorem open_w (p : Nat) (L : Nat → Option Lab) (N : Nat) (S : St) (s : ByteArray) (w : World) (h : PW w p L N S) (hN : N + 2 ≤ 1099511627776) (h1 : s.size ≤ 255) (hz : zb s.data.toList = false) (h3 : ¬ s.size = 0) (k : Nat) (hk : k < 19) (hf : S.free = some k) :
    Calls Try.prog 21 #[.pointer (some ⟨p, 0, none⟩), .string s, .int .i64 577] w (OpenPost w p L N S s 577) := by
  have HP := hid h
  have hres : openRes S s 577 = k := by
    unfold openRes
    rw [if_neg (by omega), if_neg (by rw [hz]; simp), if_neg (by simp [h3]), hf]
  have HR := hid hres
  have he : s.toList.isEmpty = false := by rw [toList_isEmpty]; simpa using h3
  have hfr : ∀ u, Tn No w u → Calls Try.prog 54 #[.pointer (some ⟨p, 0, none⟩)] u fun e w' => e = .returned (.tuple #[.int .i64 (k : Int), .bool true]) ∧ Tn No u w' := fun u t =>
    (free_raw p L N S u (h.no t)).mono (fun e w' ⟨t', r⟩ => by
      rcases r with ⟨k', _, e', e2⟩ | ⟨e', _⟩
      · rw [hf] at e'; cases e'; exact ⟨e2, t'⟩
      · rw [hf] at e'; cases e')
  have HF := hid hfr
  have hcells : ∀ u, Tn No w u → u.cell? ⟨p, 3 + k * 3, none⟩ = some (.int .i64 (S.ds k).kind) ∧ u.cell? ⟨p, 3 + k * 3 + 1, none⟩ = some (.string (S.ds k).name) ∧ u.cell? ⟨p, 3 + k * 3 + 2, none⟩ = some (.int .i64 ((S.ds k).place : Int)) ∧ (∀ j, u.frozen? ⟨p, j, none⟩ = false) ∧ p < u.heap.size := fun u t => by
    obtain ⟨c, mo, iv, tv, vs, hx⟩ := HP.out
    have hu := hx.no t
    obtain ⟨a, b, c⟩ := hu.de k hk
    exact ⟨a, b, c, hu.sc.froz, hu.sc.lt⟩
  have HC := hid hcells
  have hk2 : (k : Int) < 19 := by omega
  have hput : ∀ u, Tn No w u → Calls Try.prog 28 #[.pointer (some ⟨p, 0, none⟩), .string s, .slice none 0 0] (set3 u p k ⟨5, s, 0⟩) fun e w' => e = .returned (.tuple #[]) ∧ Lft w p L w' (N + 1) ((S.setDe k ⟨5, s, 0⟩).put s.data.toList []) := fun u t => by
    obtain ⟨c, mo, iv, tv, vs, hx⟩ := HP.out
    obtain ⟨c', hc'⟩ := (hx.no t).setDe k hk ⟨5, s, 0⟩ (Nat.zero_le _) h1
    exact (put_raw p L N _ s (.slice none 0 0) [] _ ⟨_, _, _, _, _, hc'⟩ (by omega) (by unfold maxLen; omega) (BR.nil _) (fun g hg => by cases hg) (by simp)).mono
      (fun e w' ⟨he, hl⟩ => ⟨he, hl.trans (set3_tn t.any hx.labs k _) (fun _ _ e => e)⟩)
  have HU := hid hput
  have hev : ∀ u, Lft w p L u (N + 1) ((S.setDe k ⟨5, s, 0⟩).put s.data.toList []) → ∃ tv g' n' cap' w', u.cell? ⟨p, 60, none⟩ = some tv ∧ p < u.heap.size ∧ (Builtin.append_ #[69, 69] 69 #[tv, .slice (some ⟨u.heap.size, 0, none⟩) 1 1]).run Try.prog (u.alloc (.cells #[.int .i64 3, .string s, .slice none 0 0] 87)) = .ok (.slice (some ⟨g', 0, none⟩) n' cap') w' ∧
      w'.cell? ⟨p, 60, none⟩ = some tv ∧ w'.frozen? ⟨p, 60, none⟩ = false ∧ p < w'.heap.size ∧ Lft w p L (w'.setCell ⟨p, 60, none⟩ (.slice (some ⟨g', 0, none⟩) n' cap')) (N + 2) (S.openW s k) := fun u ⟨L1, ⟨c, mo, iv, tv, vs, hx⟩, t, hl⟩ => by
    obtain ⟨v', w', hr, hc, hfz, hlt, L', hpx, ht', hl'⟩ := hx.addEv (by omega) 3 s
    obtain ⟨g', cap', rfl, _⟩ := hpx.ew.rw.pos (by simp [St.addEv])
    exact ⟨tv, g', _, cap', w', (hx.sc.cell 60 (by omega)).trans (by rw [hx.c60]), hx.sc.lt, hr, hc, hfz, hlt, Lft.trans ⟨L', ⟨_, _, _, _, _, hpx⟩, ht', hl'⟩ t hl⟩
  have HE := hid hev
  have hz2 : ∀ u, Lft w p L u (N + 2) (S.openW s k) → OpenPost w p L N S s 577 (.returned (.int .i64 (k : Int))) u := fun u hl => by
    refine ⟨by rw [HR.out], ?_⟩
    unfold openSt
    rw [HR.out, if_neg (by omega), if_neg (by omega), Int.toNat_natCast]
    exact hl
  have HZ := hid hz2
  clear hz2
  clear h hres hf h3 hfr hcells hput hev
  unfold set3 at HU
  go_enter Try.func21, Try.ntmps21
  go_wp2_with (first
    | (go_at_call 53; refine (nought_raw _ _).mono ?_; rintro e w1 ⟨rfl, rfl⟩)
    | (go_at_call 54; refine (HF.out _ (by repeat (first | exact Tn.refl _ _ | apply Tn.drew | apply Tn.drewN | apply Tn.alloc | (refine Tn.then ?_ (by assumption)) | (refine Tn.thenNo ?_ (by assumption))))).mono ?_; rintro e w2 ⟨rfl, ht2⟩; obtain ⟨c0, c1, c2, cf, cl⟩ := HC.out w2 (by repeat (first | exact Tn.refl _ _ | apply Tn.drew | apply Tn.drewN | apply Tn.alloc | (refine Tn.then ?_ (by assumption)) | (refine Tn.thenNo ?_ (by assumption)))))
    | (go_at_call 28; refine (HU.out w2 (by repeat (first | exact Tn.refl _ _ | apply Tn.drew | apply Tn.drewN | apply Tn.alloc | (refine Tn.then ?_ (by assumption)) | (refine Tn.thenNo ?_ (by assumption))))).mono ?_; rintro e w3 ⟨rfl, hl3⟩; obtain ⟨tv, g', n', cap', w4, k60, pl, hr, k61, f61, pl2, hend⟩ := HE.out w3 hl3; have HAPP := hid hr; clear hr)
    | (at_builtin; refine wpList_app _ rfl _ _ _ _ rfl _ _ rfl rfl _ w4 HAPP.out ?_))
  go_ret
  exact HZ.out _ hend
end Go.Proofs.Ytkbdgdcicflocaa
namespace Go.Proofs.Ytkbdgdcicflocaa
set_option linter.unusedSimpArgs false
set_option linter.unusedVariables false
open Go.RowKit
attribute [local go_sem ↓] Go.wp_at_zero Go.wp_at_succ

theorem open_raw (p : Nat) (L : Nat → Option Lab) (N : Nat) (S : St) (s : ByteArray) (fl : Int) (w : World) (h : PW w p L N S) (hN : N + 2 ≤ 1099511627776) (hs : s.size ≤ maxLen) :
    Calls Try.prog 21 #[.pointer (some ⟨p, 0, none⟩), .string s, .int .i64 fl] w (OpenPost w p L N S s fl) := by
  by_cases h1 : 255 < s.size
  · exact open_36 p L N S s fl w h hs h1
  by_cases h2 : (fl ≠ 0 ∧ fl ≠ 577) ∨ zb s.data.toList = true
  · exact open_22 p L N S s fl w h (by omega) h2
  have hz : zb s.data.toList = false := by
    cases e : zb s.data.toList with
    | false => rfl
    | true => exact absurd (.inr e) h2
  have hfl : fl = 0 ∨ fl = 577 := by
    rcases Classical.em (fl = 0) with e | e
    · exact .inl e
    · rcases Classical.em (fl = 577) with e' | e'
      · exact .inr e'
      · exact absurd (.inl ⟨e, e'⟩) h2
  by_cases h3 : s.size = 0 ∨ (fl = 0 ∧ S.has s = false)
  · exact open_2 p L N S s fl w h (by omega) hfl hz h3
  have h0 : ¬ s.size = 0 := fun e => h3 (.inl e)
  have hh : fl = 0 → S.has s = true := fun e => by
    cases e2 : S.has s with
    | true => rfl
    | false => exact absurd (.inr ⟨e, e2⟩) h3
  cases hf : S.free with
  | none => exact open_24 p L N S s fl w h (by omega) (by rcases hfl with e | e; exact .inr ⟨e, hh e⟩; exact .inl e) hz h0 hf
  | some k =>
    have hk : k < 19 := by
      have := List.mem_of_find?_eq_some hf
      simpa using this
    rcases hfl with rfl | rfl
    · exact open_r p L N S s w h (by omega) (hh rfl) hz h0 k hk hf
    · exact open_w p L N S s w h hN (by omega) hz h0 k hk hf
end Go.Proofs.Ytkbdgdcicflocaa
