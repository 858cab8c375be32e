/-
  addInto, takeMultiple: what is laid over limbs in their place.
-/
import Derived.Test.YtonfnkchpicoiaaCmpr
namespace Go.Proofs.Ytonfnkchpicoiaa
set_option linter.unusedSimpArgs false
set_option linter.unusedVariables false
open Go.RowKit

/-- what addInto leaves: the window of block g from off on holds the sum -/
def AddPost (w : World) (g off : Nat) (P out S y : List Nat) (e : Ending) (w' : World) : Prop :=
  ∃ N c, e = .returned (.tuple #[]) ∧ Row w' g (P ++ N ++ S) ∧ N.length = out.length ∧ Lims N ∧ c ≤ 1 ∧ val N + B32 ^ out.length * c = val out + val y ∧ w.grownBy w' (some g)

set_option maxHeartbeats 800000 in
theorem addInto_raw (g off n c : Nat) (P out S : List Nat) (b : Option Addr) (m d : Nat) (y : List Nat) (w : World)
    (hr : Row w g (P ++ out ++ S)) (hP : P.length = off) (ho : out.length = n) (hlo : Lims out) (hn : n ≤ 35184372088832) (hc : n ≤ c)
    (hy : SL w b m d y) (hoff : Off b m g) (hmn : m ≤ n) :
    Calls Try.prog 69 #[.slice (some ⟨g, off, none⟩) n c, .slice b m d] w (AddPost w g off P out S y) := by
  obtain ⟨hlen, hcap, hbig, hcm, hlim, _, bb, ob, hb, hcb⟩ := hy
  go_enter Try.func69, Try.ntmps69
  go_wp2
  go_loopw [4, 8] (fun cr i wr => ∃ (k cy : Nat) (N : List Nat), k ≤ n ∧ i = .int .i64 k ∧ cr = .int .u64 cy ∧ cy ≤ 1 ∧ N.length = k ∧ Lims N ∧ val N + B32 ^ k * cy = val (out.take k) + val (y.take k) ∧
      Row wr g (P ++ (N ++ out.drop k) ++ S) ∧ w.grownBy wr (some g)) (fun _ i _ => n - (intOf i).toNat)
  case atStart => exact ⟨0, 0, [], by omega, rfl, rfl, by omega, rfl, (by intro x hx; cases hx), by simp [val], by simpa using hr, gb_refl _ _⟩
  case round =>
    obtain ⟨k, cy, N, hk, rfl, rfl, hcy, hN, hNl, hv, hrow, hg⟩ := hrel
    have HV : Hid (val N + B32 ^ k * cy = val (out.take k) + val (y.take k)) := hv
    clear hv
    by_cases hlt : k < n
    · have hco := hrow.win_cell hP hN (by omega)
      have hfo := hrow.frozen (off + k)
      have hlo' := lims_getD hlo k
      have hly := lims_getD hlim k
      have e1 := val_take_succ out k
      have e2 := val_take_succ y k
      have E12 : Hid (val (out.take (k + 1)) = val (out.take k) + B32 ^ k * out.getD k 0 ∧ val (y.take (k + 1)) = val (y.take k) + B32 ^ k * y.getD k 0) := ⟨e1, e2⟩
      clear e1 e2
      by_cases hkm : k < m
      · obtain ⟨rfl, _⟩ := hb (by omega)
        have hcy' := gb_cell hg (hcb k hkm) (by intro e; cases e; exact hoff (by omega) g ob none rfl rfl)
        clear hcb hb
        generalize out.getD k 0 = p at *
        generalize y.getD k 0 = q at *
        go_wp2
        go_roundw
        case rel =>
          refine ⟨k + 1, (cy + p + q) / 4294967296, N ++ [(cy + p + q) % 4294967296], by omega, by go_num, by go_num, by omega, by simp; omega, lims_snoc hNl (by omega), ?_, hrow.win_set hP hN (by omega) _ _ (by go_num), gb_set hg _ _ (.inl rfl)⟩
          rw [E12.out.1, E12.out.2, carry_step hN HV.out (c' := (cy + p + q) / 4294967296) (s := p + q) (by rw [B32_eq]; omega), Nat.mul_add]
          omega
        case measure => simp [intOf]; omega
      · have hq : y.getD k 0 = 0 := by rw [List.getD_eq_getElem?_getD, List.getElem?_eq_none (by omega)]; rfl
        rw [hq] at E12
        clear hcb hb hq
        generalize out.getD k 0 = p at *
        go_wp2
        go_roundw
        case rel =>
          refine ⟨k + 1, (cy + p) / 4294967296, N ++ [(cy + p) % 4294967296], by omega, by go_num, by go_num, by omega, by simp; omega, lims_snoc hNl (by omega), ?_, hrow.win_set hP hN (by omega) _ _ (by go_num), gb_set hg _ _ (.inl rfl)⟩
          rw [E12.out.1, E12.out.2, carry_step hN HV.out (c' := (cy + p) / 4294967296) (s := p) (by rw [B32_eq]; omega)]
          omega
        case measure => simp [intOf]; omega
    · have hkn : k = n := by omega
      subst hkn
      go_wp2
      go_end0
      have hv := HV.out
      rw [List.take_of_length_le (by omega), List.take_of_length_le (by omega)] at hv
      rw [List.drop_of_length_le (by omega), List.append_nil] at hrow
      exact ⟨N, cy, rfl, hrow, by omega, hNl, hcy, by rw [ho]; exact hv, hg⟩
end Go.Proofs.Ytonfnkchpicoiaa
