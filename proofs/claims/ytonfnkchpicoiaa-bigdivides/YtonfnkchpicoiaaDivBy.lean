/-
  divideBy: limbs divided by a limb, in their place.
-/
import Derived.Test.YtonfnkchpicoiaaOf
import Derived.Laws.BitsAllLaws
namespace Go.Proofs.Ytonfnkchpicoiaa
set_option linter.unusedSimpArgs false
set_option linter.unusedVariables false
open Go.RowKit

theorem or_nat (r p : Nat) (hp : p < 4294967296) : r * 4294967296 ||| p = r * 4294967296 + p := by
  have h := Nat.shiftLeft_add_eq_or_of_lt (i := 32) (b := p) (show p < 2 ^ 32 by simpa using hp) r
  rw [Nat.shiftLeft_eq] at h
  have e : (2 : Nat) ^ 32 = 4294967296 := by decide
  rw [e] at h
  exact h.symm
theorem or_hi (r p : Nat) (hr : r < 4294967296) (hp : p < 4294967296) : bits .or .u64 ((r : Int) * 4294967296) (p : Int) = ((r * 4294967296 + p : Nat) : Int) := by
  have h := u64_or_nat (r * 4294967296) p (by omega) (by omega)
  rw [or_nat r p hp] at h
  rw [← h]
  simp

theorem step_gen (b : Nat) {X Q dv r p q s : Nat} (h : X = Q * dv + r) (h2 : dv * q + s = r * b + p) : p + b * X = (q + b * Q) * dv + s := by
  subst h
  grind

theorem divBy_step {out Q : List Nat} {m r dv p : Nat} (hm : m < out.length) (hp : out.getD m 0 = p) (h : val (out.drop (m + 1)) = val Q * dv + r) (hd : 0 < dv) :
    val (out.drop m) = val ((r * 4294967296 + p) / dv :: Q) * dv + (r * 4294967296 + p) % dv := by
  have e : out.drop m = p :: out.drop (m + 1) := by
    rw [List.drop_eq_getElem_cons hm, ← hp, List.getD_eq_getElem?_getD, List.getElem?_eq_getElem hm]; rfl
  rw [e]
  simp only [val]
  exact step_gen B32 h (by rw [B32_eq]; exact Nat.div_add_mod _ _)

def DivByPost (w : World) (g dv : Nat) (out S : List Nat) (e : Ending) (w' : World) : Prop :=
  ∃ N r, e = .returned (.int .u32 ((r : Nat) : Int)) ∧ Row w' g (N ++ S) ∧ N.length = out.length ∧ Lims N ∧ r < dv ∧ val out = val N * dv + r ∧ w.grownBy w' (some g)

set_option maxHeartbeats 800000 in
theorem divideBy_raw (g n c dv : Nat) (out S : List Nat) (w : World) (hr : Row w g (out ++ S)) (ho : out.length = n) (hlo : Lims out) (hn : n ≤ 35184372088832) (hc : n ≤ c) (hd : 0 < dv) (hd2 : dv < 4294967296) :
    Calls Try.prog 73 #[.slice (some ⟨g, 0, none⟩) n c, .int .u32 ((dv : Nat) : Int)] w (DivByPost w g dv out S) := by
  go_enter Try.func73, Try.ntmps73
  go_wp2
  go_loopw [5, 6] (fun cr i wr => ∃ (k r : Nat) (Q : List Nat), k ≤ n ∧ i = .int .i64 ((k : Int) - 1) ∧ cr = .int .u64 r ∧ r < dv ∧ Q.length = n - k ∧ Lims Q ∧ val (out.drop k) = val Q * dv + r ∧
      Row wr g (out.take k ++ Q ++ S) ∧ w.grownBy wr (some g)) (fun _ i _ => (intOf i + 1).toNat)
  case atStart => exact ⟨n, 0, [], by omega, by go_num, rfl, hd, by simp, (by intro x hx; cases hx), by rw [List.drop_of_length_le (by omega)]; simp [val], by rw [List.take_of_length_le (by omega)]; simpa using hr, gb_refl _ _⟩
  case round =>
    obtain ⟨k, r, Q, hk, rfl, rfl, hrd, hQ, hQl, hv, hrow, hg⟩ := hrel
    have HV := hid hv
    clear hv
    by_cases h0 : k = 0
    · subst h0
      go_wp2
      go_ret
      have hv := HV.out
      rw [List.drop_zero] at hv
      rw [List.take_zero, List.nil_append] at hrow
      exact ⟨Q, r, by go_num, hrow, by omega, hQl, hrd, hv, hg⟩
    · obtain ⟨m, rfl⟩ : ∃ m, k = m + 1 := ⟨k - 1, by omega⟩
      have em : ((m + 1 : Nat) : Int) - 1 = (m : Int) := by omega
      rw [em]
      have hco := hrow.cell m (by simp; omega)
      have hfo := hrow.frozen m
      have e1 : (out.take (m + 1) ++ Q ++ S).getD m 0 = out.getD m 0 := by
        simp only [List.getD_eq_getElem?_getD]
        rw [List.append_assoc, List.getElem?_append_left (by simp; omega), List.getElem?_take]; simp
      rw [e1] at hco
      have hlo' := lims_getD hlo m
      generalize hp : out.getD m 0 = p at *
      have HP := hid hp
      clear hp e1
      have hor := or_hi r p (by omega) hlo'
      have hdv : (r * 4294967296 + p) / dv < 4294967296 := by
        rw [Nat.div_lt_iff_lt_mul hd]
        have : (r + 1) * 4294967296 ≤ dv * 4294967296 := Nat.mul_le_mul_right _ hrd
        rw [Nat.mul_comm 4294967296 dv]
        omega
      have hmod : (r * 4294967296 + p) % dv < dv := Nat.mod_lt _ hd
      go_wp2
      go_roundw
      case rel =>
        refine ⟨m, (r * 4294967296 + p) % dv, (r * 4294967296 + p) / dv :: Q, by omega, by go_num, ?_, hmod, by simp; omega, ?_, divBy_step (by omega) HP.out HV.out hd, ?_, gb_set hg _ _ (.inl rfl)⟩
        · simp
        · intro x hx
          rcases List.mem_cons.1 hx with rfl | hx
          · exact hdv
          · exact hQl x hx
        · have hs := hrow.set m ((r * 4294967296 + p) / dv) (by simp; omega)
          have e2 : (out.take (m + 1) ++ Q ++ S).set m ((r * 4294967296 + p) / dv) = out.take m ++ ((r * 4294967296 + p) / dv :: Q) ++ S := by
            rw [take_snoc out m (by omega)]
            simp only [List.append_assoc]
            rw [List.set_append_right _ _ (by simp; omega)]
            have : m - (out.take m).length = 0 := by simp; omega
            rw [this]
            simp
          rw [e2] at hs
          have ev : ((r : Int) * 4294967296 + p) / dv % 4294967296 = (((r * 4294967296 + p) / dv : Nat) : Int) := by
            have e : ((r : Int) * 4294967296 + p) / dv = (((r * 4294967296 + p) / dv : Nat) : Int) := by simp
            rw [e]
            generalize (r * 4294967296 + p) / dv = q at *
            omega
          rw [ev]
          exact hs
      case measure => simp [intOf]
end Go.Proofs.Ytonfnkchpicoiaa
