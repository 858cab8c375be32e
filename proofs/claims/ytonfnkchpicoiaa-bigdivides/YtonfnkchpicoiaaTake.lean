/-
  takeMultiple: a multiple is taken from limbs in their place.
-/
import Derived.Test.YtonfnkchpicoiaaAddto
import Derived.Test.YtonfnkchpicoiaaMath2
namespace Go.Proofs.Ytonfnkchpicoiaa
set_option linter.unusedSimpArgs false
set_option linter.unusedVariables false
open Go.RowKit

def TakePost (w : World) (g off dg : Nat) (P out S y : List Nat) (e : Ending) (w' : World) : Prop :=
  ∃ N lack, e = .returned (.int .u64 ((lack : Nat) : Int)) ∧ Row w' g (P ++ N ++ S) ∧ N.length = out.length ∧ Lims N ∧ lack ≤ 4294967295 ∧ val N + dg * val y = val out + B32 ^ out.length * lack ∧ w.grownBy w' (some g)

set_option maxHeartbeats 800000 in
theorem takeMultiple_raw (g off n c : Nat) (P out S : List Nat) (b : Option Addr) (m d : Nat) (y : List Nat) (dg : Nat) (w : World)
    (hr : Row w g (P ++ out ++ S)) (hP : P.length = off) (ho : out.length = n) (hlo : Lims out) (hn : n ≤ 35184372088832) (hc : n ≤ c) (hdg : dg ≤ 4294967295)
    (hy : SL w b m d y) (hoff : Off b m g) (hmn : m ≤ n) :
    Calls Try.prog 70 #[.slice (some ⟨g, off, none⟩) n c, .slice b m d, .int .u64 ((dg : Nat) : Int)] w (TakePost w g off dg P out S y) := by
  obtain ⟨hlen, hcap, hbig, hcm, hlim, _, bb, ob, hb, hcb⟩ := hy
  go_enter Try.func70, Try.ntmps70
  go_wp2
  go_loopw [7, 12] (fun cr i wr => ∃ (k lack : Nat) (N : List Nat), k ≤ n ∧ i = .int .i64 k ∧ cr = .int .u64 lack ∧ lack ≤ 4294967295 ∧ N.length = k ∧ Lims N ∧ val N + dg * val (y.take k) = val (out.take k) + B32 ^ k * lack ∧
      Row wr g (P ++ (N ++ out.drop k) ++ S) ∧ w.grownBy wr (some g)) (fun _ i _ => n - (intOf i).toNat)
  case atStart => exact ⟨0, 0, [], by omega, rfl, rfl, by omega, rfl, (by intro x hx; cases hx), by simp [val], by simpa using hr, gb_refl _ _⟩
  case round =>
    obtain ⟨k, lack, N, hk, rfl, rfl, hlk, hN, hNl, hv, hrow, hg⟩ := hrel
    have HV : Hid (val N + dg * val (y.take k) = val (out.take k) + B32 ^ k * lack) := hv
    clear hv
    by_cases hlt : k < n
    · have hco := hrow.win_cell hP hN (by omega)
      have hfo := hrow.frozen (off + k)
      have hlo' := lims_getD hlo k
      have hly := lims_getD hlim k
      have e1 := val_take_succ out k
      have e2 := val_take_succ y k
      have E12 : Hid (val (out.take (k + 1)) = val (out.take k) + B32 ^ k * out.getD k 0 ∧ val (y.take (k + 1)) = val (y.take k) + B32 ^ k * y.getD k 0) := ⟨e1, e2⟩
      clear e1 e2
      by_cases hkm : k < m
      · obtain ⟨rfl, _⟩ := hb (by omega)
        have hcy' := gb_cell hg (hcb k hkm) (by intro e; cases e; exact hoff (by omega) g ob none rfl rfl)
        clear hcb hb
        generalize out.getD k 0 = p at *
        generalize y.getD k 0 = q at *
        have hpr := mul_lt hdg (show q ≤ 4294967295 by omega)
        have hpr' : (dg : Int) * (q : Int) = ((dg * q : Nat) : Int) := by simp
        generalize hdq : dg * q = t at *
        have HDQ : Hid (dg * q = t) := hdq
        clear hdq
        go_wp2
        · have hcase : (p : Int) < ((lack : Int) + (t : Int)) % 4294967296 := by assumption
          go_roundw
          case rel =>
            refine ⟨k + 1, (lack + t) / 4294967296 + 1, N ++ [p + 4294967296 - (lack + t) % 4294967296], by omega, by go_num, by go_num, by omega, by simp; omega, lims_snoc hNl (by omega), ?_, hrow.win_set hP hN (by omega) _ _ ?_, gb_set hg _ _ (.inl rfl)⟩
            · rw [E12.out.1, E12.out.2]
              exact borrow_step hN HV.out (by rw [HDQ.out, B32_eq]; omega)
            · go_num
          case measure => simp [intOf]; omega
        · have hcase : ((lack : Int) + (t : Int)) % 4294967296 ≤ (p : Int) := by assumption
          go_roundw
          case rel =>
            refine ⟨k + 1, (lack + t) / 4294967296, N ++ [p - (lack + t) % 4294967296], by omega, by go_num, by go_num, by omega, by simp; omega, lims_snoc hNl (by omega), ?_, hrow.win_set hP hN (by omega) _ _ ?_, gb_set hg _ _ (.inl rfl)⟩
            · rw [E12.out.1, E12.out.2]
              exact borrow_step hN HV.out (by rw [HDQ.out, B32_eq]; omega)
            · go_num
          case measure => simp [intOf]; omega
      · have hq : y.getD k 0 = 0 := by rw [List.getD_eq_getElem?_getD, List.getElem?_eq_none (by omega)]; rfl
        rw [hq] at E12
        clear hcb hb hq
        generalize out.getD k 0 = p at *
        go_wp2
        · have hcase : p < lack := by omega
          go_roundw
          case rel =>
            refine ⟨k + 1, 1, N ++ [p + 4294967296 - lack], by omega, by go_num, by go_num, by omega, by simp; omega, lims_snoc hNl (by omega), ?_, hrow.win_set hP hN (by omega) _ _ ?_, gb_set hg _ _ (.inl rfl)⟩
            · rw [E12.out.1, E12.out.2]
              exact borrow_step hN HV.out (by rw [B32_eq]; omega)
            · go_num
          case measure => simp [intOf]; omega
        · have hcase : lack ≤ p := by omega
          go_roundw
          case rel =>
            refine ⟨k + 1, 0, N ++ [p - lack], by omega, by go_num, by go_num, by omega, by simp; omega, lims_snoc hNl (by omega), ?_, hrow.win_set hP hN (by omega) _ _ ?_, gb_set hg _ _ (.inl rfl)⟩
            · rw [E12.out.1, E12.out.2]
              exact borrow_step hN HV.out (by rw [B32_eq]; omega)
            · go_num
          case measure => simp [intOf]; omega
    · have hkn : k = n := by omega
      subst hkn
      go_wp2
      go_ret
      have hv := HV.out
      rw [List.take_of_length_le (by omega), List.take_of_length_le (by omega)] at hv
      rw [List.drop_of_length_le (by omega), List.append_nil] at hrow
      exact ⟨N, lack, rfl, hrow, by omega, hNl, hlk, by rw [ho]; exact hv, hg⟩
end Go.Proofs.Ytonfnkchpicoiaa
