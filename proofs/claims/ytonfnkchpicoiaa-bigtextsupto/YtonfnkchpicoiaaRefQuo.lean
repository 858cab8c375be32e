/-
  The reference: quo (a number by a limb).
-/
import Derived.Test.YtonfnkchpicoiaaRefNat
namespace Go.Proofs.Ytonfnkchpicoiaa
set_option linter.unusedSimpArgs false
set_option linter.unusedVariables false
open Go.RowKit
attribute [local go_sem ↓] Go.wp_at_zero Go.wp_at_succ

def QuoPost (w : World) (x : List Nat) (dv : Nat) (e : Ending) (w' : World) : Prop :=
  ∃ g l r, e = .returned (.tuple #[.slice (some ⟨g, 0, none⟩) l.length l.length, .int .u32 ((r : Nat) : Int)]) ∧ Row w' g l ∧ Nrm l ∧ Lims l ∧ r < dv ∧ val x = val l * dv + r ∧ w.heap.size ≤ g ∧ l.length ≤ x.length ∧ w.grownBy w' none

set_option maxHeartbeats 1600000 in
theorem quo_raw (a : Option Addr) (n c dv : Nat) (x : List Nat) (w : World) (hx : SL w a n c x) (hd : 0 < dv) (hd2 : dv < 4294967296) :
    Calls Try.prog 77 #[.slice a n c, .int .u32 ((dv : Nat) : Int)] w (QuoPost w x dv) := by
  obtain ⟨hlen, hcap, hbig, hcm, hlim, hnil, b, off, ha, hcell⟩ := hx
  have hmk := fun u => make_row n (by omega) u
  have hz := Row.made w n
  go_enter Try.func77, Try.ntmps77
  go_wp2
  go_loopw [7, 8] (fun cr i wr => ∃ (k r : Nat) (Q : List Nat), k ≤ n ∧ i = .int .i64 ((k : Int) - 1) ∧ cr = .int .u64 r ∧ r < dv ∧ Q.length = n - k ∧ Lims Q ∧ val (x.drop k) = val Q * dv + r ∧
      Row wr w.heap.size (List.replicate k 0 ++ Q) ∧ w.grownBy wr none) (fun _ i _ => (intOf i + 1).toNat)
  case atStart => exact ⟨n, 0, [], by omega, by go_num, rfl, hd, by simp, (by intro x hx; cases hx), by rw [List.drop_of_length_le (by omega)]; simp [val], by simpa using hz, World.grownBy_alloc w _ none⟩
  case round =>
    obtain ⟨k, r, Q, hk, rfl, rfl, hrd, hQ, hQl, hv, hrow, hg⟩ := hrel
    have HV := hid hv
    have hwl := hrow.lt
    clear hv hz
    by_cases h0 : k = 0
    · subst h0
      rw [List.replicate_zero, List.nil_append] at hrow
      have hQn : Q.length = n := by omega
      go_wp2_with (go_at_call 47; refine (rtrim_raw _ _ _ Q _ (by exact (OW.of_row (B := 0) (L := []) (by simpa using hrow) (Nat.zero_le _) hQn (Nat.le_refl _) hbig (by omega) hQl).sl)).mono ?_; rintro e w6 ⟨g6, rfl, hr6, hB6, hg6⟩)
      have hr32 : (r : Int) % 4294967296 = (r : Int) := by omega
      refine bodyPost_ret (v := .tuple #[.slice (some ⟨g6, 0, none⟩) (tr Q).length (tr Q).length, .int .u32 ((r : Nat) : Int)]) (by simp [results, Try.results77, go_sem, hr32]) rfl ?_
      have hv := HV.out
      rw [List.drop_zero] at hv
      have htl := tr_le Q
      exact ⟨g6, tr Q, r, rfl, hr6, nrm_tr _, lims_tr hQl, hrd, by rw [val_tr, hv], Nat.le_trans hg.size hB6, by omega, gb_then hg hg6 (by simp)⟩
    · obtain ⟨m, rfl⟩ : ∃ m, k = m + 1 := ⟨k - 1, by omega⟩
      have em : ((m + 1 : Nat) : Int) - 1 = (m : Int) := by omega
      rw [em]
      obtain ⟨rfl, _⟩ := ha (by omega)
      have hco := gb_cell hg (hcell m (by omega)) (by simp)
      have hfo := hrow.frozen m
      have hcw := hrow.cell m (by simp; omega)
      have hlo' := lims_getD hlim m
      clear hcell ha
      generalize hp : x.getD m 0 = p at *
      have HP := hid hp
      clear hp
      have hdv : (r * 4294967296 + p) / dv < 4294967296 := by
        rw [Nat.div_lt_iff_lt_mul hd]
        have : (r + 1) * 4294967296 ≤ dv * 4294967296 := Nat.mul_le_mul_right _ hrd
        rw [Nat.mul_comm 4294967296 dv]
        omega
      have hmod : (r * 4294967296 + p) % dv < dv := Nat.mod_lt _ hd
      go_wp2
      go_roundw
      case rel =>
        refine ⟨m, (r * 4294967296 + p) % dv, (r * 4294967296 + p) / dv :: Q, by omega, by go_num, ?_, hmod, by simp; omega, ?_, divBy_step (by omega) HP.out HV.out hd, ?_, gb_set hg _ _ (.inr (Nat.le_refl _))⟩
        · simp
        · intro x hx
          rcases List.mem_cons.1 hx with rfl | hx
          · exact hdv
          · exact hQl x hx
        · have hs := hrow.set m ((r * 4294967296 + p) / dv) (by simp; omega)
          have e2 : (List.replicate (m + 1) 0 ++ Q).set m ((r * 4294967296 + p) / dv) = List.replicate m 0 ++ ((r * 4294967296 + p) / dv :: Q) := by
            rw [List.replicate_succ', List.append_assoc, List.set_append_right _ _ (by simp)]
            simp
          rw [e2] at hs
          have ev : ((r : Int) * 4294967296 + p) / dv % 4294967296 = (((r * 4294967296 + p) / dv : Nat) : Int) := by
            have e : ((r : Int) * 4294967296 + p) / dv = (((r * 4294967296 + p) / dv : Nat) : Int) := by simp
            rw [e]
            generalize (r * 4294967296 + p) / dv = q at *
            omega
          rw [ev]
          exact hs
      case measure => simp [intOf]
end Go.Proofs.Ytonfnkchpicoiaa
