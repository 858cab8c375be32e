/-
  product: of limbs, in new memory.
-/
import Derived.Test.YtonfnkchpicoiaaDiff
namespace Go.Proofs.Ytonfnkchpicoiaa
set_option linter.unusedSimpArgs false
set_option linter.unusedVariables false
open Go.RowKit

theorem set_end (P N : List Nat) (k j n cy : Nat) (hP : P.length = k) (hN : N.length = j) (hk : k < n) : (P ++ N ++ List.replicate (n - k) 0).set (k + j) cy = P ++ N ++ [cy] ++ List.replicate (n - (k + 1)) 0 := by
  have e : n - k = (n - (k + 1)) + 1 := by omega
  rw [e, List.replicate_succ, List.set_append_right _ _ (by simp; omega)]
  have e2 : k + j - (P ++ N).length = 0 := by simp; omega
  rw [e2, List.set_cons_zero]
  simp only [List.append_assoc, List.cons_append, List.nil_append]

set_option maxHeartbeats 1600000 in
theorem product_raw (a b : Option Addr) (n m c d : Nat) (x y : List Nat) (w : World) (hx : SL w a n c x) (hy : SL w b m d y) (hsz : n + m ≤ 35184372088832) :
    Calls Try.prog 52 #[.slice a n c, .slice b m d] w (NewPost w (n + m) fun N => val N = val x * val y) := by
  have hmk := fun u => make_row (n + m) (by omega) u
  have ec : ((n + m : Nat) : Int) = (n : Int) + (m : Int) := by omega
  rw [ec] at hmk
  obtain ⟨hlen, hcap, hbig, hcm, hlim, _, ba, oa, ha, hca⟩ := hx
  obtain ⟨hlen', hcap', hbig', hcm', hlim', _, bb, ob, hb, hcb⟩ := hy
  have hz := Row.made w (n + m)
  go_enter Try.func52, Try.ntmps52
  go_wp2
  go_loopw [8, 19] (fun cr i wr => ∃ (k : Nat) (A : List Nat), k ≤ n ∧ i = .int .i64 k ∧ A.length = k + m ∧ Lims A ∧ val A = val (x.take k) * val y ∧
      Row wr w.heap.size (A ++ List.replicate (n - k) 0) ∧ w.grownBy wr none) (fun _ i _ => n - (intOf i).toNat)
  case atStart =>
    refine ⟨0, List.replicate m 0, by omega, rfl, by simp, lims_replicate m, by simp [val, val_replicate_zero], ?_, gb_alloc (gb_refl _ _) _⟩
    rw [List.replicate_append_replicate, show m + (n - 0) = n + m by omega]
    exact hz
  case round =>
    obtain ⟨k, A, hk, rfl, hA, hAl, hv, hrow, hg⟩ := hrel
    have HV := hid hv
    clear hv
    by_cases hlt : k < n
    · obtain ⟨rfl, hbl⟩ := ha (by omega)
      have hcx := gb_cell hg (hca k (by omega)) (by simp)
      have hlx := lims_getD hlim k
      have HX : Hid (val (x.take (k + 1)) = val (x.take k) + B32 ^ k * x.getD k 0) := val_take_succ x k
      clear hca ha
      generalize x.getD k 0 = f at *
      have hP : (A.take k).length = k := by simp; omega
      have hmid : (A.drop k).length = m := by simp; omega
      have hml : Lims (A.drop k) := lims_drop hAl k
      have HA : Hid (val (A.take k) + B32 ^ k * val (A.drop k) = val (x.take k) * val y) := by rw [← HV.out]; exact (val_split A k (by omega)).symm
      have hrow0 : Row wr w.heap.size (A.take k ++ A.drop k ++ List.replicate (n - k) 0) := by rw [List.take_append_drop]; exact hrow
      have hPl : Lims (A.take k) := lims_take hAl k
      clear hrow
      generalize A.take k = P at *
      generalize A.drop k = mid at *
      clear HV hA hAl
      go_wp2
      go_loopw [8, 26] (fun cr i wr2 => ∃ (j cy : Nat) (N : List Nat), j ≤ m ∧ i = .int .i64 j ∧ cr = .int .u64 cy ∧ cy ≤ 4294967295 ∧ N.length = j ∧ Lims N ∧ val N + B32 ^ j * cy = val (mid.take j) + f * val (y.take j) ∧
          Row wr2 w.heap.size (P ++ (N ++ mid.drop j) ++ List.replicate (n - k) 0) ∧ w.grownBy wr2 none) (fun _ i _ => m - (intOf i).toNat)
      case atStart => exact ⟨0, 0, [], by omega, rfl, rfl, by omega, rfl, (by intro x hx; cases hx), by simp [val], by simpa using hrow0, hg⟩
      case round =>
        obtain ⟨j, cy, N, hj, rfl, rfl, hcy, hN, hNl, hv, hrow, hg2⟩ := hrel
        have HV := hid hv
        clear hv
        by_cases hjm : j < m
        · obtain ⟨rfl, hbl'⟩ := hb (by omega)
          have hcy' := gb_cell hg2 (hcb j hjm) (by simp)
          have hco := hrow.win_cell hP hN (by omega)
          have hfo := hrow.frozen (k + j)
          have hlo' := lims_getD hml j
          have hly := lims_getD hlim' j
          have E12 : Hid (val (mid.take (j + 1)) = val (mid.take j) + B32 ^ j * mid.getD j 0 ∧ val (y.take (j + 1)) = val (y.take j) + B32 ^ j * y.getD j 0) := ⟨val_take_succ mid j, val_take_succ y j⟩
          clear hcb hb
          generalize mid.getD j 0 = p at *
          generalize y.getD j 0 = q at *
          have hpr := mul_lt (show f ≤ 4294967295 by omega) (show q ≤ 4294967295 by omega)
          have hpr' : (f : Int) * (q : Int) = ((f * q : Nat) : Int) := by simp
          generalize hdq : f * q = t at *
          have HDQ := hid hdq
          clear hdq
          go_wp2
          go_roundw
          case rel =>
            refine ⟨j + 1, (cy + (t + p)) / 4294967296, N ++ [(cy + (t + p)) % 4294967296], by omega, by go_num, by go_num, by omega, by simp; omega, lims_snoc hNl (by omega), ?_, hrow.win_set hP hN (by omega) _ _ (by go_num), gb_set hg2 _ _ (.inr (Nat.le_refl _))⟩
            rw [E12.out.1, E12.out.2]
            exact mul_step hN HV.out (by rw [HDQ.out, B32_eq]; omega)
          case measure => simp [intOf]; omega
        · have hjn : j = m := by omega
          subst hjn
          rw [List.drop_of_length_le (by omega), List.append_nil] at hrow
          have hfo := hrow.frozen (k + j)
          have hco := hrow.cell (k + j) (by simp; omega)
          generalize (P ++ N ++ List.replicate (n - k) 0).getD (k + j) 0 = old at *
          go_wp2
          go_roundw
          case rel =>
            have hv := HV.out
            rw [List.take_of_length_le (by omega), List.take_of_length_le (by omega)] at hv
            refine ⟨k + 1, P ++ N ++ [cy], by omega, by go_num, by simp; omega, lims_snoc (lims_append.2 ⟨hPl, hNl⟩) (by omega), row_done hP (by rw [hN]; exact hv) HA.out HX.out, ?_, gb_set hg2 _ _ (.inr (Nat.le_refl _))⟩
            have hs := hrow.set (k + j) cy (by simp; omega)
            rw [set_end P N k j n cy hP hN (by omega)] at hs
            exact hs
          case measure => simp [intOf]; omega
    · have hkn : k = n := by omega
      subst hkn
      go_wp2
      go_ret
      have hv := HV.out
      rw [List.take_of_length_le (by omega)] at hv
      rw [Nat.sub_self, List.replicate_zero, List.append_nil] at hrow
      exact ⟨_, A, rfl, hrow, hA, hAl, Nat.le_refl _, hv, hg⟩
end Go.Proofs.Ytonfnkchpicoiaa
