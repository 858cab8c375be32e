/-
  The reference: natAdd, natSub, times.
-/
import Derived.Test.YtonfnkchpicoiaaRefCmp
import Derived.Test.YtonfnkchpicoiaaMulAdd
import Derived.Test.YtonfnkchpicoiaaParse2
namespace Go.Proofs.Ytonfnkchpicoiaa
set_option linter.unusedSimpArgs false
set_option linter.unusedVariables false
open Go.RowKit
attribute [local go_sem ↓] Go.wp_at_zero Go.wp_at_succ

/-- limbs as they should stand, at the head of a new block -/
def RNat (w : World) (z k : Nat) (e : Ending) (w' : World) : Prop :=
  ∃ g l, e = .returned (.slice (some ⟨g, 0, none⟩) l.length l.length) ∧ Row w' g l ∧ Nrm l ∧ Lims l ∧ val l = z ∧ w.heap.size ≤ g ∧ l.length ≤ k ∧ w.grownBy w' none

theorem RNat.ow {w w' : World} {g : Nat} {l : List Nat} (hr : Row w' g l) (hl : Lims l) (hB : w.heap.size ≤ g) (hk : l.length ≤ 35184372088832) : OW w' w.heap.size (some ⟨g, 0, none⟩) l.length l.length l :=
  OW.of_row (L := []) (by simpa using hr) hB rfl (Nat.le_refl _) hk (by omega) hl

/-- one more limb at the end of what the call gathers -/
theorem hd_snoc {w wr w5 : World} {B ao no co g5 cap5 d : Nat} {a : Option Addr} {N : List Nat} (h : HD wr B a no co N) (hg : w.grownBy wr none) (hB : w.heap.size ≤ B) {v : Value} (hv : v = .int .u32 (d : Int)) (hd : d < 4294967296)
    (hown : w5.ownsRow B 47 1 (.slice (some ⟨g5, 0, none⟩) (no + 1) cap5) (no + 1) (cl N ++ [v])) (hgrow : (wr.alloc (.cells #[v] 47)).grownBy w5 (Value.slice a no co).ownBlock) :
    HD w5 B (some ⟨g5, 0, none⟩) (no + 1) cap5 (N ++ [d]) ∧ w.grownBy w5 none := by
  subst hv
  refine ⟨⟨by simpa [cl] using hown, lims_snoc h.lim hd⟩, ?_⟩
  exact gb_then (gb_alloc hg _) hgrow (fun i e => Nat.le_trans hB (h.own.lt i e).1)

set_option maxHeartbeats 1600000 in
theorem times_raw (a : Option Addr) (n c f mo : Nat) (x : List Nat) (w : World) (hx : SL w a n c x) (hn : n + 1 ≤ 35184372088832) (hf : f < 4294967296) (hm : mo < 4294967296) :
    Calls Try.prog 72 #[.slice a n c, .int .u32 ((f : Nat) : Int), .int .u32 ((mo : Nat) : Int)] w (RNat w (val x * f + mo) (n + 1)) := by
  obtain ⟨i0, hi, hz0, hz1, hz2⟩ := info_parts u32_info
  obtain ⟨hlen, hcap, hbig, hcm, hlim, hnil, b, off, ha, hcell⟩ := hx
  go_enter Try.func72, Try.ntmps72
  go_wp2
  go_loopw [7, 8, 9] (fun o cr i wr => ∃ (k cy : Nat) (ao : Option Addr) (co : Nat) (N : List Nat), k ≤ n ∧ i = .int .i64 k ∧ cr = .int .u64 cy ∧ cy ≤ 4294967295 ∧ o = .slice ao k co ∧ HD wr w.heap.size ao k co N ∧ val N + B32 ^ k * cy = val (x.take k) * f + mo ∧ w.grownBy wr none) (fun _ _ i _ => n - (intOf i).toNat)
  case atStart => exact ⟨0, mo, none, 0, [], by omega, rfl, rfl, by omega, rfl, HD.nil' _ _, by simp [val], gb_refl _ _⟩
  case round =>
    obtain ⟨k, cy, ao, co, N, hk, rfl, rfl, hcy, rfl, hHD, hv, hg⟩ := hrel
    have HV := hid hv
    have HN := hid hHD.len
    clear hv
    by_cases hlt : k < n
    · obtain ⟨rfl, _⟩ := ha (by omega)
      have hck := gb_cell hg (hcell k hlt) (by simp)
      have hlo' := lims_getD hlim k
      have E1 : Hid (val (x.take (k + 1)) = val (x.take k) + B32 ^ k * x.getD k 0) := val_take_succ x k
      generalize x.getD k 0 = p at *
      have hpr := mul_lt (show p ≤ 4294967295 by omega) (show f ≤ 4294967295 by omega)
      have hpr' : (p : Int) * (f : Int) = ((p * f : Nat) : Int) := by simp
      generalize hdq : p * f = t at *
      have HDQ := hid hdq
      clear hdq hcell
      go_wp2_with (at_builtin; refine wpList_append_lies _ rfl (.tmp 29) (.tmp 33) 22 rfl w.heap.size 47 i0 (.int .u32 0) 1 4 Try.underlying22 hi hz0 hz1 hz2 rfl (by decide) (.slice ao k co) k (cl N) rfl (hHD.own.alloc _) ⟨wr.heap.size, 0, none⟩ 1 1 [.int .u32 (((t : Int) + (cy : Int)) % 4294967296)] rfl rfl (cell_one_new _ _ _) (by intro u hu; simp at hu; subst hu; rfl) (by omega) (by unfold maxLen; omega) (by omega) (by have := hg.size; simp; omega) (wr.heap.size + 1) (by simp) ?_; intro g5 cap5 w5 hown5 hgrow5 hat5 hlt5)
      obtain ⟨hHD5, hg5⟩ := hd_snoc (ao := 0) (d := (t + cy) % 4294967296) hHD hg (Nat.le_refl _) (by go_num) (by omega) hown5 hgrow5
      clear hown5 hgrow5
      go_wp2
      go_roundw
      case rel =>
        refine ⟨k + 1, (t + cy) / 4294967296, _, cap5, N ++ [(t + cy) % 4294967296], by omega, by go_num, by go_num, by omega, rfl, hHD5, ?_, hg5⟩
        rw [E1.out]
        exact muladd_step HN.out HV.out (by rw [HDQ.out, B32_eq]; omega)
      case measure => simp [intOf]; omega
    · have hkn : k = n := by omega
      subst hkn
      clear hcell ha
      go_wp2_with (first
        | (at_builtin; refine wpList_append_lies _ rfl (.tmp 37) (.tmp 40) 22 rfl w.heap.size 47 i0 (.int .u32 0) 1 4 Try.underlying22 hi hz0 hz1 hz2 rfl (by decide) (.slice ao k co) k (cl N) rfl (hHD.own.alloc _) ⟨wr.heap.size, 0, none⟩ 1 1 [.int .u32 ((cy : Int))] rfl rfl (cell_one_new _ _ _) (by intro u hu; simp at hu; subst hu; rfl) (by omega) (by unfold maxLen; omega) (by omega) (by have := hg.size; simp; omega) (wr.heap.size + 1) (by simp) ?_; intro g5 cap5 w5 hown5 hgrow5 hat5 hlt5)
        | (go_at_call 47; refine (rtrim_raw _ _ _ (N ++ [cy]) _ (by exact ((hd_snoc (ao := 0) (d := cy) hHD hg (Nat.le_refl _) rfl (by omega) hown5 hgrow5).1.ow (by omega)).sl)).mono ?_; rintro e w6 ⟨g6, rfl, hr6, hB6, hg6⟩))
      go_ret
      obtain ⟨hHD5, hg5⟩ := hd_snoc (ao := 0) (d := cy) hHD hg (Nat.le_refl _) rfl (by omega) hown5 hgrow5
      have hv := HV.out
      rw [List.take_of_length_le (by omega)] at hv
      have hl5 := hHD5.len
      have htl := tr_le (N ++ [cy])
      refine ⟨g6, tr (N ++ [cy]), rfl, hr6, nrm_tr _, lims_tr hHD5.lim, by rw [val_tr, val_snoc, HN.out, hv], Nat.le_trans hg5.size hB6, by omega, gb_then hg5 hg6 (by simp)⟩

set_option maxHeartbeats 1600000 in
theorem natAdd_wide (a b : Option Addr) (n c m d : Nat) (x y : List Nat) (w : World) (hx : SL w a n c x) (hy : SL w b m d y) (Mx : Nat) (hnM : n ≤ Mx) (hmM : m ≤ Mx) (hn : Mx + 1 ≤ 35184372088832) :
    Calls Try.prog 54 #[.slice a n c, .slice b m d] w (RNat w (val x + val y) (Mx + 1)) := by
  obtain ⟨i0, hi, hz0, hz1, hz2⟩ := info_parts u32_info
  have hxl := hx.len
  have hyl := hy.len
  go_enter Try.func54, Try.ntmps54
  go_wp2
  go_loopw [5, 6, 7] (fun o cr i wr => ∃ (k cy : Nat) (ao : Option Addr) (co : Nat) (N : List Nat), k ≤ Mx ∧ i = .int .i64 k ∧ cr = .int .u64 cy ∧ cy ≤ 1 ∧ o = .slice ao k co ∧ HD wr w.heap.size ao k co N ∧ val N + B32 ^ k * cy = val (x.take k) + val (y.take k) ∧ w.grownBy wr none) (fun _ _ i _ => Mx - (intOf i).toNat)
  case atStart => exact ⟨0, 0, none, 0, [], by omega, rfl, rfl, by omega, rfl, HD.nil' _ _, by simp [val], gb_refl _ _⟩
  case round =>
    obtain ⟨k, cy, ao, co, N, hk, rfl, rfl, hcy, rfl, hHD, hv, hg⟩ := hrel
    have HV := hid hv
    have HN := hid hHD.len
    clear hv
    by_cases hlt : k < n ∨ k < m
    · have hb1 := lims_getD hx.lim k
      have hb2 := lims_getD hy.lim k
      have E12 : Hid (val (x.take (k + 1)) = val (x.take k) + B32 ^ k * x.getD k 0 ∧ val (y.take (k + 1)) = val (y.take k) + B32 ^ k * y.getD k 0) := ⟨val_take_succ x k, val_take_succ y k⟩
      have HX := hid (at_raw a n c k x wr (hx.grown hg) (by omega))
      have HY := hid (at_raw b m d k y wr (hy.grown hg) (by omega))
      generalize x.getD k 0 = p at *
      generalize y.getD k 0 = q at *
      by_cases hkn : k < n
      all_goals
        first | (have hkn' : (k : Int) < (n : Int) := by omega) | (have hkn' : ¬ (k : Int) < (n : Int) := by omega)
        try (have hkm' : (k : Int) < (m : Int) := by omega)
        go_wp2_with (first | (go_at_call_of 71 (Value.slice a n c); refine (HX.out).mono ?_; rintro e w' ⟨rfl, hww⟩; subst w') | (go_at_call_of 71 (Value.slice b m d); refine (HY.out).mono ?_; rintro e w' ⟨rfl, hww⟩; subst w') | (at_builtin; refine wpList_append_lies _ rfl (.tmp 30) (.tmp 34) 22 rfl w.heap.size 47 i0 (.int .u32 0) 1 4 Try.underlying22 hi hz0 hz1 hz2 rfl (by decide) (.slice ao k co) k (cl N) rfl (hHD.own.alloc _) ⟨wr.heap.size, 0, none⟩ 1 1 [.int .u32 (((p : Int) + (q : Int) + (cy : Int)) % 4294967296)] rfl rfl (cell_one_new _ _ _) (by intro u hu; simp at hu; subst hu; rfl) (by omega) (by unfold maxLen; omega) (by omega) (by have := hg.size; simp; omega) (wr.heap.size + 1) (by simp) ?_; intro g5 cap5 w5 hown5 hgrow5 hat5 hlt5))
        obtain ⟨hHD5, hg5⟩ := hd_snoc (ao := 0) (d := (p + q + cy) % 4294967296) hHD hg (Nat.le_refl _) (by go_num) (by omega) hown5 hgrow5
        clear hown5 hgrow5
        go_wp2
        go_roundw
        case rel =>
          refine ⟨k + 1, (p + q + cy) / 4294967296, _, cap5, N ++ [(p + q + cy) % 4294967296], by omega, by go_num, by go_num, by omega, rfl, hHD5, ?_, hg5⟩
          rw [E12.out.1, E12.out.2, carry_step HN.out HV.out (c' := (p + q + cy) / 4294967296) (s := p + q) (by rw [B32_eq]; omega), Nat.mul_add]
          omega
        case measure => simp [intOf]; omega
    · have hk1 : ¬ (k : Int) < (n : Int) := by omega
      have hk2 : ¬ (k : Int) < (m : Int) := by omega
      go_wp2_with (first
        | (at_builtin; refine wpList_append_lies _ rfl (.tmp 38) (.tmp 41) 22 rfl w.heap.size 47 i0 (.int .u32 0) 1 4 Try.underlying22 hi hz0 hz1 hz2 rfl (by decide) (.slice ao k co) k (cl N) rfl (hHD.own.alloc _) ⟨wr.heap.size, 0, none⟩ 1 1 [.int .u32 ((cy : Int))] rfl rfl (cell_one_new _ _ _) (by intro u hu; simp at hu; subst hu; rfl) (by omega) (by unfold maxLen; omega) (by omega) (by have := hg.size; simp; omega) (wr.heap.size + 1) (by simp) ?_; intro g5 cap5 w5 hown5 hgrow5 hat5 hlt5)
        | (go_at_call 47; refine (rtrim_raw _ _ _ (N ++ [cy]) _ (by exact ((hd_snoc (ao := 0) (d := cy) hHD hg (Nat.le_refl _) rfl (by omega) hown5 hgrow5).1.ow (by omega)).sl)).mono ?_; rintro e w6 ⟨g6, rfl, hr6, hB6, hg6⟩))
      go_ret
      obtain ⟨hHD5, hg5⟩ := hd_snoc (ao := 0) (d := cy) hHD hg (Nat.le_refl _) rfl (by omega) hown5 hgrow5
      have hv := HV.out
      rw [List.take_of_length_le (by omega), List.take_of_length_le (by omega)] at hv
      have hl5 := hHD5.len
      have htl := tr_le (N ++ [cy])
      refine ⟨g6, tr (N ++ [cy]), rfl, hr6, nrm_tr _, lims_tr hHD5.lim, by rw [val_tr, val_snoc, HN.out, hv], Nat.le_trans hg5.size hB6, by omega, gb_then hg5 hg6 (by simp)⟩

theorem natAdd_raw (a b : Option Addr) (n c m d : Nat) (x y : List Nat) (w : World) (hx : SL w a n c x) (hy : SL w b m d y) (hn : n + m ≤ 1000000000) :
    Calls Try.prog 54 #[.slice a n c, .slice b m d] w (RNat w (val x + val y) (n + m + 1)) :=
  natAdd_wide a b n c m d x y w hx hy (n + m) (by omega) (by omega) (by omega)

theorem sub_step {N : List Nat} {k less less' d p q X Y : Nat} (hk : N.length = k) (h : val N + Y = X + B32 ^ k * less) (e : d + (less + q) = p + B32 * less') :
    val (N ++ [d]) + (Y + B32 ^ k * q) = (X + B32 ^ k * p) + B32 ^ (k + 1) * less' := by
  have h' : val N + 1 * Y = X + B32 ^ k * less := by rw [Nat.one_mul]; exact h
  have := borrow_step (dg := 1) (q := q) (p := p) (lack' := less') (d := d) hk h' (by rw [Nat.one_mul]; exact e)
  rwa [Nat.one_mul] at this

set_option maxHeartbeats 1600000 in
theorem natSub_raw (a b : Option Addr) (n c m d : Nat) (x y : List Nat) (w : World) (hx : SL w a n c x) (hy : SL w b m d y) (hn : n ≤ 35184372088832) (hle : val y ≤ val x) (hny : val (y.take n) = val y) :
    Calls Try.prog 55 #[.slice a n c, .slice b m d] w (RNat w (val x - val y) n) := by
  obtain ⟨i0, hi, hz0, hz1, hz2⟩ := info_parts u32_info
  have hxl := hx.len
  have hyl := hy.len
  have HNY := hid hny
  clear hny
  go_enter Try.func55, Try.ntmps55
  go_wp2
  go_loopw [5, 6, 7] (fun o cr i wr => ∃ (k cy : Nat) (ao : Option Addr) (co : Nat) (N : List Nat), k ≤ n ∧ i = .int .i64 k ∧ cr = .int .u64 cy ∧ cy ≤ 1 ∧ o = .slice ao k co ∧ HD wr w.heap.size ao k co N ∧ val N + val (y.take k) = val (x.take k) + B32 ^ k * cy ∧ w.grownBy wr none) (fun _ _ i _ => n - (intOf i).toNat)
  case atStart => exact ⟨0, 0, none, 0, [], by omega, rfl, rfl, by omega, rfl, HD.nil' _ _, by simp [val], gb_refl _ _⟩
  case round =>
    obtain ⟨k, cy, ao, co, N, hk, rfl, rfl, hcy, rfl, hHD, hv, hg⟩ := hrel
    have HV := hid hv
    have HN := hid hHD.len
    clear hv
    by_cases hlt : k < n
    · have hb1 := lims_getD hx.lim k
      have hb2 := lims_getD hy.lim k
      have E12 : Hid (val (x.take (k + 1)) = val (x.take k) + B32 ^ k * x.getD k 0 ∧ val (y.take (k + 1)) = val (y.take k) + B32 ^ k * y.getD k 0) := ⟨val_take_succ x k, val_take_succ y k⟩
      have HX := hid (at_raw a n c k x wr (hx.grown hg) (by omega))
      have HY := hid (at_raw b m d k y wr (hy.grown hg) (by omega))
      generalize x.getD k 0 = p at *
      generalize y.getD k 0 = q at *
      go_wp2_with (first | (go_at_call_of 71 (Value.slice a n c); refine (HX.out).mono ?_; rintro e w' ⟨rfl, hww⟩; subst w') | (go_at_call_of 71 (Value.slice b m d); refine (HY.out).mono ?_; rintro e w' ⟨rfl, hww⟩; subst w') | (at_builtin; refine wpList_append_lies _ rfl (.tmp 25) (.tmp 29) 22 rfl w.heap.size 47 i0 (.int .u32 0) 1 4 Try.underlying22 hi hz0 hz1 hz2 rfl (by decide) (.slice ao k co) k (cl N) rfl (hHD.own.alloc _) ⟨wr.heap.size, 0, none⟩ 1 1 [.int .u32 (((p : Int) + 4294967296 - (q : Int) - (cy : Int)) % 4294967296)] rfl rfl (cell_one_new _ _ _) (by intro u hu; simp at hu; subst hu; rfl) (by omega) (by unfold maxLen; omega) (by omega) (by have := hg.size; simp; omega) (wr.heap.size + 1) (by simp) ?_; intro g5 cap5 w5 hown5 hgrow5 hat5 hlt5))
      obtain ⟨hHD5, hg5⟩ := hd_snoc (ao := 0) (d := (p + 4294967296 - q - cy) % 4294967296) hHD hg (Nat.le_refl _) (by go_num) (by omega) hown5 hgrow5
      clear hown5 hgrow5
      go_wp2
      go_roundw
      case rel =>
        refine ⟨k + 1, 1 - (p + 4294967296 - q - cy) / 4294967296, _, cap5, N ++ [(p + 4294967296 - q - cy) % 4294967296], by omega, by go_num, by go_num, by omega, rfl, hHD5, ?_, hg5⟩
        rw [E12.out.1, E12.out.2]
        exact sub_step HN.out HV.out (by rw [B32_eq]; omega)
      case measure => simp [intOf]; omega
    · have hkn : k = n := by omega
      subst hkn
      go_wp2_with (go_at_call 47; refine (rtrim_raw _ _ _ N _ (by exact (hHD.ow (by omega)).sl)).mono ?_; rintro e w6 ⟨g6, rfl, hr6, hB6, hg6⟩)
      go_ret
      have hv := HV.out
      rw [HNY.out, List.take_of_length_le (by omega)] at hv
      have htl := tr_le N
      have hlN := HN.out
      have hvN : val N = val x - val y := by
        have h1 := val_lt N hHD.lim
        rw [hlN] at h1
        generalize B32 ^ k = P at *
        by_cases hc : cy = 0
        · subst hc; rw [Nat.mul_zero] at hv; omega
        · have hc1 : cy = 1 := by omega
          subst hc1; rw [Nat.mul_one] at hv; omega
      refine ⟨g6, tr N, rfl, hr6, nrm_tr _, lims_tr hHD.lim, by rw [val_tr, hvN], Nat.le_trans hg.size hB6, by omega, gb_then hg hg6 (by simp)⟩

end Go.Proofs.Ytonfnkchpicoiaa
