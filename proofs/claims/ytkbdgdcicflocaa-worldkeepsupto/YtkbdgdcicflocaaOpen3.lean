/-
  SysOpen.
-/
import Derived.Test.YtkbdgdcicflocaaOpen2
namespace Go.Proofs.Ytkbdgdcicflocaa
set_option linter.unusedSimpArgs false
set_option linter.unusedVariables false
open Go.RowKit
attribute [local go_sem ↓] Go.wp_at_zero Go.wp_at_succ

set_option maxHeartbeats 1000000 in
set_option maxRecDepth 100000 in
theorem open_r (p : Nat) (L : Nat → Option Lab) (N : Nat) (S : St) (s : ByteArray) (w : World) (h : PW w p L N S) (h1 : s.size ≤ 255) (hh : S.has s = true) (hz : zb s.data.toList = false) (h3 : ¬ s.size = 0) (k : Nat) (hk : k < 19) (hf : S.free = some k) :
    Calls Try.prog 21 #[.pointer (some ⟨p, 0, none⟩), .string s, .int .i64 0] w (OpenPost w p L N S s 0) := by
  have HP := hid h
  have hres : openRes S s 0 = k := by
    unfold openRes
    rw [if_neg (by omega), if_neg (by rw [hz]; simp), if_neg (by simp [h3, hh]), hf]
  have HR := hid hres
  have he : s.toList.isEmpty = false := by rw [toList_isEmpty]; simpa using h3
  have hfr : ∀ u, Tn No w u → Calls Try.prog 54 #[.pointer (some ⟨p, 0, none⟩)] u fun e w' => e = .returned (.tuple #[.int .i64 (k : Int), .bool true]) ∧ Tn No u w' := fun u t =>
    (free_raw p L N S u (h.no t)).mono (fun e w' ⟨t', r⟩ => by
      rcases r with ⟨k', _, e', e2⟩ | ⟨e', _⟩
      · rw [hf] at e'; cases e'; exact ⟨e2, t'⟩
      · rw [hf] at e'; cases e')
  have HF := hid hfr
  have hcells : ∀ u, Tn No w u → u.cell? ⟨p, 3 + k * 3, none⟩ = some (.int .i64 (S.ds k).kind) ∧ u.cell? ⟨p, 3 + k * 3 + 1, none⟩ = some (.string (S.ds k).name) ∧ u.cell? ⟨p, 3 + k * 3 + 2, none⟩ = some (.int .i64 ((S.ds k).place : Int)) ∧ (∀ j, u.frozen? ⟨p, j, none⟩ = false) ∧ p < u.heap.size := fun u t => by
    obtain ⟨c, mo, iv, tv, vs, hx⟩ := HP.out
    have hu := hx.no t
    obtain ⟨a, b, c⟩ := hu.de k hk
    exact ⟨a, b, c, hu.sc.froz, hu.sc.lt⟩
  have HC := hid hcells
  have hk2 : (k : Int) < 19 := by omega
  have hz2 : ∀ u, Tn No w u → OpenPost w p L N S s 0 (.returned (.int .i64 (k : Int))) (((u.setCell ⟨p, 3 + k * 3, none⟩ (.int .i64 4)).setCell ⟨p, 3 + k * 3 + 1, none⟩ (.string s)).setCell ⟨p, 3 + k * 3 + 2, none⟩ (.int .i64 0)) := fun u t => by
    refine ⟨by rw [HR.out], ?_⟩
    unfold openSt
    rw [HR.out, if_neg (by omega), if_pos (by omega), Int.toNat_natCast]
    have e3 : ((u.setCell ⟨p, 3 + k * 3, none⟩ (.int .i64 4)).setCell ⟨p, 3 + k * 3 + 1, none⟩ (.string s)).setCell ⟨p, 3 + k * 3 + 2, none⟩ (.int .i64 0) = set3 u p k ⟨4, s, 0⟩ := by simp [set3]
    rw [e3]
    obtain ⟨c, mo, iv, tv, vs, hx⟩ := HP.out
    obtain ⟨c', hc'⟩ := (hx.no t).setDe k hk ⟨4, s, 0⟩ (Nat.zero_le _) h1
    exact Lft.mono ⟨L, ⟨_, _, _, _, _, hc'⟩, set3_tn t.any hx.labs k _, fun _ _ e => e⟩ (by omega)
  have HZ := hid hz2
  clear hz2
  clear h hres hf h3 hfr hcells
  go_enter Try.func21, Try.ntmps21
  go_wp2_with (first
    | (go_at_call 53; refine (nought_raw _ _).mono ?_; rintro e w1 ⟨rfl, rfl⟩)
    | (go_at_call 27; refine (has_raw p L N S s _ (by exact HP.out) (by unfold maxLen; omega)).mono ?_; rintro e w1 ⟨rfl, rfl⟩)
    | (go_at_call 54; refine (HF.out _ (by repeat (first | exact Tn.refl _ _ | apply Tn.drew | apply Tn.drewN | apply Tn.alloc | (refine Tn.then ?_ (by assumption)) | (refine Tn.thenNo ?_ (by assumption))))).mono ?_; rintro e w2 ⟨rfl, ht2⟩; obtain ⟨c0, c1, c2, cf, cl⟩ := HC.out w2 (by repeat (first | exact Tn.refl _ _ | apply Tn.drew | apply Tn.drewN | apply Tn.alloc | (refine Tn.then ?_ (by assumption)) | (refine Tn.thenNo ?_ (by assumption))))))
  go_ret
  exact HZ.out w2 ht2
end Go.Proofs.Ytkbdgdcicflocaa
