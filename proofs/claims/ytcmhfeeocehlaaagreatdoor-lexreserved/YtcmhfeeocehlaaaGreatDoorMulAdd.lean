/-
  multiplyAdd: limbs times a limb and one more, in their place, a limb longer if it must be.
-/
import Derived.Test.YtcmhfeeocehlaaaGreatDoorDivBy
namespace Go.Proofs.YtcmhfeeocehlaaaGreatDoor
set_option linter.unusedSimpArgs false
set_option linter.unusedVariables false
open Go.RowKit

theorem muladd_step {N : List Nat} {k c c' d f mo p Y : Nat} (hk : N.length = k) (h : val N + B32 ^ k * c = Y * f + mo) (e : c + p * f = d + B32 * c') :
    val (N ++ [d]) + B32 ^ (k + 1) * c' = (Y + B32 ^ k * p) * f + mo := by
  subst hk
  rw [val_snoc, Nat.pow_succ]
  have : B32 ^ N.length * (c + p * f) = B32 ^ N.length * (d + B32 * c') := by rw [e]
  grind

/-- limbs of the call's own that may grow: nil, or at the head of a block -/
structure HD (w : World) (B : Nat) (a : Option Addr) (n c : Nat) (l : List Nat) : Prop where
  own : w.ownsRow B 84 1 (.slice a n c) n (cl l)
  lim : Lims l
theorem HD.len {w : World} {B : Nat} {a : Option Addr} {n c : Nat} {l : List Nat} (h : HD w B a n c l) : l.length = n := by
  have := h.own.1; simpa [cl] using this
theorem HD.form {w : World} {B : Nat} {a : Option Addr} {n c : Nat} {l : List Nat} (h : HD w B a n c l) (hn : 0 < n) : ∃ g, a = some ⟨g, 0, none⟩ ∧ B ≤ g ∧ g < w.heap.size := by
  obtain ⟨g, cap, hv, hb, hg⟩ := h.own.form hn
  cases hv
  exact ⟨g, rfl, hb, hg⟩
theorem HD.nil' (w : World) (B : Nat) : HD w B none 0 0 [] := ⟨World.ownsRow_nil _ _ _ _, (by intro x hx; cases hx)⟩
theorem own_set {w : World} {B g n c k d : Nat} {N l : List Nat} (h : w.ownsRow B 84 1 (.slice (some ⟨g, 0, none⟩) n c) n (cl (N ++ l.drop k))) (hN : N.length = k) (hk : k < l.length) (v : Value) (hv : v = .int .u32 (d : Int)) :
    (w.setCell ⟨g, k, none⟩ v).ownsRow B 84 1 (.slice (some ⟨g, 0, none⟩) n c) n (cl ((N ++ [d]) ++ l.drop (k + 1))) := by
  subst hv
  have h2 := h.stored k (.int .u32 (d : Int))
  have e : (cl (N ++ l.drop k)).set k (.int .u32 (d : Int)) = cl ((N ++ [d]) ++ l.drop (k + 1)) := by
    rw [List.drop_eq_getElem_cons hk, cl_append, List.set_append_right _ _ (by rw [cl_length]; omega), cl_length, hN, Nat.sub_self]
    simp only [cl_append, List.append_assoc]
    rfl
  rw [e] at h2
  exact h2.1
theorem block_eq (a : Option Addr) (n c n' c' : Nat) : (Value.slice a n c).ownBlock = (Value.slice a n' c').ownBlock := by cases a <;> rfl
theorem own_get {w : World} {B g n c k : Nat} {N l : List Nat} (h : w.ownsRow B 84 1 (.slice (some ⟨g, 0, none⟩) n c) n (cl (N ++ l.drop k))) (hN : N.length = k) (hk : k < l.length) (hn : l.length = n) : w.cell? ⟨g, k, none⟩ = some (.int .u32 ((l.getD k 0 : Nat) : Int)) := by
  rw [h.cellAt k (by omega), cl_get _ _ (by simp; omega)]
  congr 3
  simp only [List.getD_eq_getElem?_getD]
  rw [List.getElem?_append_right (by omega), hN, Nat.sub_self, List.getElem?_drop, Nat.add_zero]

/-- what multiplyAdd answers -/
def MAPost (w : World) (B : Nat) (a : Option Addr) (n : Nat) (z : Nat) (e : Ending) (w' : World) : Prop :=
  ∃ a' n' c' N, e = .returned (.slice a' n' c') ∧ HD w' B a' n' c' N ∧ val N = z ∧ n' ≤ n + 1 ∧ w.grownBy w' (Value.slice a n 0).ownBlock

set_option maxHeartbeats 1600000 in
set_option maxRecDepth 100000 in
theorem multiplyAdd_raw (B : Nat) (a : Option Addr) (n c f mo : Nat) (l : List Nat) (w : World) (h : HD w B a n c l) (hB : B ≤ w.heap.size) (hn : n + 1 ≤ 35184372088832) (hf : f < 4294967296) (hm : mo < 4294967296) :
    Calls Tryz.prog 110 #[.slice a n c, .int .u32 ((f : Nat) : Int), .int .u32 ((mo : Nat) : Int)] w (MAPost w B a n (val l * f + mo)) := by
  obtain ⟨i0, hi, hz0, hz1, hz2⟩ := info_parts u32_info
  have hlen := h.len
  have hlim := h.lim
  have hform := fun hn => h.form hn
  have hown := h.own
  clear h
  go_enter Tryz.func110, Tryz.ntmps110
  go_wp2
  go_loopw [7, 14] (fun cr i wr => ∃ (k cy : Nat) (N : List Nat), k ≤ n ∧ i = .int .i64 k ∧ cr = .int .u64 cy ∧ cy ≤ 4294967295 ∧ N.length = k ∧ Lims N ∧ val N + B32 ^ k * cy = val (l.take k) * f + mo ∧
      wr.ownsRow B 84 1 (.slice a n c) n (cl (N ++ l.drop k)) ∧ w.grownBy wr (Value.slice a n 0).ownBlock) (fun _ i _ => n - (intOf i).toNat)
  case atStart => exact ⟨0, mo, [], by omega, rfl, rfl, by omega, rfl, (by intro x hx; cases hx), by simp [val], by simpa using hown, gb_refl _ _⟩
  case round =>
    obtain ⟨k, cy, N, hk, rfl, rfl, hcy, hN, hNl, hv, hown2, hg⟩ := hrel
    have HV := hid1 hv
    clear hv
    by_cases hlt : k < n
    · obtain ⟨g, rfl, hBg, hgl⟩ := hform (by omega)
      have hco := own_get hown2 hN (by omega) hlen
      have hfo := hown2.frozenAt k
      have hlo' := lims_getD hlim k
      have E1 : Hid (val (l.take (k + 1)) = val (l.take k) + B32 ^ k * l.getD k 0) := val_take_succ l k
      generalize l.getD k 0 = p at *
      have hpr := mul_lt (show p ≤ 4294967295 by omega) (show f ≤ 4294967295 by omega)
      have hpr' : (p : Int) * (f : Int) = ((p * f : Nat) : Int) := by simp
      generalize hdq : p * f = t at *
      have HDQ := hid1 hdq
      clear hdq
      go_wp2
      go_roundw
      case rel =>
        refine ⟨k + 1, (cy + t) / 4294967296, N ++ [(cy + t) % 4294967296], by omega, by go_num, by go_num, by omega, by simp; omega, lims_snoc hNl (by omega), ?_, own_set hown2 hN (by omega) _ (by go_num), gb_set hg _ _ (.inl rfl)⟩
        rw [E1.out]
        exact muladd_step hN HV.out (by rw [HDQ.out, B32_eq]; omega)
      case measure => simp [intOf]; omega
    · have hkn : k = n := by omega
      subst hkn
      have HV2 : Hid (val N + B32 ^ k * cy = val l * f + mo) := by
        have := HV.out
        rwa [List.take_of_length_le (by omega)] at this
      clear HV
      rw [List.drop_of_length_le (by omega), List.append_nil] at hown2
      by_cases hc0 : cy = 0
      · subst hc0
        go_wp2
        go_ret
        have hv := HV2.out
        rw [Nat.mul_zero, Nat.add_zero] at hv
        exact ⟨a, k, c, N, rfl, ⟨hown2, hNl⟩, hv, by omega, hg⟩
      · go_wp2_with (at_builtin; refine wpList_append_lies _ rfl (.tmp 36) (.tmp 39) 33 rfl B 84 i0 (.int .u32 0) 1 4 Tryz.underlying33 hi hz0 hz1 hz2 rfl (by decide) (.slice a k c) k (cl N) rfl (hown2.alloc _) ⟨wr.heap.size, 0, none⟩ 1 1 [.int .u32 ((cy : Nat) : Int)] rfl rfl (cell_one_new _ _ _) (by intro u hu; simp at hu; subst hu; rfl) (by omega) (by unfold maxLen; omega) (by omega) (by have := hg.size; simp; omega) (wr.heap.size + 1) (by simp) ?_; intro g cap w1 hown3 hgrow hat hlt3)
        go_ret
        rw [block_eq a k c k 0] at hgrow
        refine ⟨_, k + 1, cap, N ++ [cy], rfl, ⟨by simpa [cl] using hown3, lims_snoc hNl (by omega)⟩, ?_, Nat.le_refl _, gb_same (gb_alloc hg _) hgrow⟩
        rw [val_snoc, hN]
        exact HV2.out
end Go.Proofs.YtcmhfeeocehlaaaGreatDoor
