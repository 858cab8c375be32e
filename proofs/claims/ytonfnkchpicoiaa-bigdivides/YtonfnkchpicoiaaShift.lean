/-
  shifted, shiftBack: limbs moved up and down by bits.
-/
import Derived.Test.YtonfnkchpicoiaaLead
import Derived.Test.YtonfnkchpicoiaaDivMath
namespace Go.Proofs.Ytonfnkchpicoiaa
set_option linter.unusedSimpArgs false
set_option linter.unusedVariables false
open Go.RowKit
attribute [local go_sem ↓] Go.wp_at_zero Go.wp_at_succ

def ShPost (w : World) (x : List Nat) (sh : Nat) (e : Ending) (w' : World) : Prop :=
  ∃ g N, e = .returned (.slice (some ⟨g, 0, none⟩) (x.length + 1) (x.length + 1)) ∧ Row w' g N ∧ N.length = x.length + 1 ∧ Lims N ∧ val N = val x * 2 ^ sh ∧ w.heap.size ≤ g ∧ w.grownBy w' none

theorem pow_le31 {sh : Nat} (h : sh ≤ 31) : 2 ^ sh ≤ 2147483648 := Nat.pow_le_pow_right (n := 2) (by omega) h
theorem or_sh (cy p sh : Nat) (hs : sh ≤ 31) (hc : cy < 2 ^ sh) (hp : p < 4294967296) : bits .or .u64 (cy : Int) (IntKind.u64.wrap ((p : Int) * 2 ^ sh)) = ((cy + p * 2 ^ sh : Nat) : Int) := by
  have h1 := pow_le31 hs
  have h2 : p * 2 ^ sh ≤ 4294967295 * 2147483648 := Nat.mul_le_mul (by omega) h1
  have e : (p : Int) * 2 ^ sh = ((p * 2 ^ sh : Nat) : Int) := by simp
  have e2 : IntKind.u64.wrap ((p * 2 ^ sh : Nat) : Int) = ((p * 2 ^ sh : Nat) : Int) := by
    generalize p * 2 ^ sh = q at *
    simp [IntKind.wrap, IntKind.bits, IntKind.signed]
    omega
  rw [e, e2, ← or_shift cy p sh hc]
  exact u64_or_nat cy (p * 2 ^ sh) (by omega) (by omega)
theorem sh_step {cy p S B : Nat} (hc : cy < S) (hp : p < B) : (cy + p * S) / B < S := by
  rw [Nat.div_lt_iff_lt_mul (by omega)]
  have : (p + 1) * S ≤ B * S := Nat.mul_le_mul_right _ hp
  rw [Nat.add_mul] at this
  rw [Nat.mul_comm S B]
  omega
theorem rep_set (N : List Nat) (m k d : Nat) (hN : N.length = k) : (N ++ List.replicate (m + 1) 0).set k d = (N ++ [d]) ++ List.replicate m 0 := by
  rw [List.set_append_right _ _ (by omega), hN, Nat.sub_self, List.replicate_succ, List.set_cons_zero, List.append_assoc]; rfl

set_option maxHeartbeats 1600000 in
theorem shifted_raw (a : Option Addr) (n c sh : Nat) (x : List Nat) (w : World) (hx : SL w a n c x) (hs : sh ≤ 31) :
    Calls Try.prog 80 #[.slice a n c, .int .i64 (sh : Int)] w (ShPost w x sh) := by
  obtain ⟨hlen, hcap, hbig, hcm, hlim, hnil, b, off, ha, hcell⟩ := hx
  have hmk := fun u => make_row (n + 1) (by omega) u
  have ec : ((n + 1 : Nat) : Int) = (n : Int) + 1 := by omega
  rw [ec] at hmk
  have hz := Row.made w (n + 1)
  go_enter Try.func80, Try.ntmps80
  go_wp2
  go_loopw [6, 15] (fun cr i wr => ∃ (k cy : Nat) (N : List Nat), k ≤ n ∧ i = .int .i64 k ∧ cr = .int .u64 cy ∧ cy < 2 ^ sh ∧ N.length = k ∧ Lims N ∧ val N + B32 ^ k * cy = val (x.take k) * 2 ^ sh ∧
      Row wr w.heap.size (N ++ List.replicate (n - k + 1) 0) ∧ w.grownBy wr none) (fun _ i _ => n - (intOf i).toNat)
  case atStart => exact ⟨0, 0, [], by omega, rfl, rfl, Nat.two_pow_pos _, rfl, (by intro x hx; cases hx), by simp [val], by simpa using hz, World.grownBy_alloc w _ none⟩
  case round =>
    obtain ⟨k, cy, N, hk, rfl, rfl, hcy, hN, hNl, hv, hrow, hg⟩ := hrel
    have HV := hid hv
    have hwl := hrow.lt
    have h31 := pow_le31 hs
    clear hv hz
    by_cases hlt : k < n
    · obtain ⟨rfl, _⟩ := ha (by omega)
      have hco := gb_cell hg (hcell k (by omega)) (by simp)
      have hfo := hrow.frozen k
      have hcw := hrow.cell k (by simp; omega)
      have hlo' := lims_getD hlim k
      have E1 : Hid (val (x.take (k + 1)) = val (x.take k) + B32 ^ k * x.getD k 0) := val_take_succ x k
      clear hcell ha
      generalize x.getD k 0 = p at *
      have hor := or_sh cy p sh hs hcy hlo'
      have HST := hid (sh_step hcy hlo')
      generalize hS : 2 ^ sh = S at *
      have HSS := hid hS
      clear hS
      generalize hq : cy + p * S = q at *
      have HQ := hid hq
      clear hq
      go_wp2
      go_roundw
      case rel =>
        refine ⟨k + 1, q / 4294967296, N ++ [q % 4294967296], by omega, by go_num, by go_num, HST.out, by simp; omega, lims_snoc hNl (by omega), ?_, ?_, gb_set hg _ _ (.inr (Nat.le_refl _))⟩
        · rw [E1.out, carry_step hN HV.out (c' := q / 4294967296) (s := p * S) (by rw [HQ.out, B32_eq]; omega), Nat.add_mul, Nat.mul_assoc]
        · have hs := hrow.set k (q % 4294967296) (by simp; omega)
          have em : n - k + 1 = (n - (k + 1) + 1) + 1 := by omega
          rw [em, rep_set N _ k _ hN] at hs
          have ev : (q : Int) % 4294967296 = ((q % 4294967296 : Nat) : Int) := by omega
          rw [ev]
          exact hs
      case measure => simp [intOf]; omega
    · have hkn : k = n := by omega
      subst hkn
      have hfo := hrow.frozen k
      have hcw := hrow.cell k (by simp; omega)
      go_wp2
      go_ret
      have hs := hrow.set k cy (by simp; omega)
      rw [Nat.sub_self, rep_set N _ k _ hN, List.replicate_zero, List.append_nil] at hs
      have hv := HV.out
      rw [List.take_of_length_le (by omega)] at hv
      have ev : (cy : Int) % 4294967296 = (cy : Int) := by omega
      refine ⟨w.heap.size, N ++ [cy], by rw [hlen]; rfl, ?_, by simp; omega, lims_snoc hNl (by omega), by rw [val_snoc, hN, hv], Nat.le_refl _, gb_set hg _ _ (.inr (Nat.le_refl _))⟩
      first | exact hs | (rw [ev]; exact hs)

def BackPost (w : World) (g sh : Nat) (N : List Nat) (e : Ending) (w' : World) : Prop :=
  ∃ M, e = .returned (.tuple #[]) ∧ Row w' g M ∧ M.length = N.length ∧ Lims M ∧ val M = val N / 2 ^ sh ∧ w.grownBy w' (some g)

theorem drop_val2 (l : List Nat) (m : Nat) : val (l.drop m) = l.getD m 0 + B32 * val (l.drop (m + 1)) := by
  by_cases h : m < l.length
  · rw [List.drop_eq_getElem_cons h, List.getD_eq_getElem?_getD, List.getElem?_eq_getElem h]; rfl
  · rw [List.drop_of_length_le (by omega), List.drop_of_length_le (by omega), List.getD_eq_getElem?_getD, List.getElem?_eq_none (by omega)]; rfl
theorem back_step {N M : List Nat} {k sh : Nat} (hs : sh ≤ 31) (hl : Lims N) (hM : M.length = k) (h : val M + B32 ^ k * (val (N.drop k) / 2 ^ sh) = val N / 2 ^ sh) :
    val (M ++ [(N.getD k 0 + N.getD (k + 1) 0 * 4294967296) / 2 ^ sh % 4294967296]) + B32 ^ (k + 1) * (val (N.drop (k + 1)) / 2 ^ sh) = val N / 2 ^ sh := by
  have e1 := drop_val2 N k
  have e2 := drop_val2 N (k + 1)
  have hlk := lims_getD hl k
  have hlk1 := lims_getD hl (k + 1)
  have e3 : val (N.drop (k + 1)) % B32 = N.getD (k + 1) 0 := by
    rw [e2, Nat.add_mul_mod_self_left, Nat.mod_eq_of_lt (by rw [B32_eq]; exact hlk1)]
  have hB : B32 = 2 ^ sh * 2 ^ (32 - sh) := by
    rw [← Nat.pow_add, show sh + (32 - sh) = 32 by omega]; rfl
  have h2 := back_gen (t := val (N.drop (k + 1))) hB (Nat.two_pow_pos _) (show N.getD k 0 < B32 by rw [B32_eq]; exact hlk)
  rw [← e1, e3, B32_eq] at h2
  rw [← h, h2, val_snoc, hM, Nat.pow_succ, B32_eq]
  generalize val (N.drop (k + 1)) / 2 ^ sh = z
  generalize (N.getD k 0 + N.getD (k + 1) 0 * 4294967296) / 2 ^ sh % 4294967296 = y
  generalize val M = m
  generalize 4294967296 ^ k = p
  rw [Nat.mul_add, Nat.mul_assoc]
  omega
theorem or_low (p q : Nat) (hp : p < 4294967296) (hq : q < 4294967296) : bits .or .u64 (p : Int) ((q : Int) * 4294967296) = ((p + q * 4294967296 : Nat) : Int) := by
  have h := u64_or_nat p (q * 4294967296) (by omega) (by omega)
  have e : p ||| q * 4294967296 = p + q * 4294967296 := or_shift p q 32 hp
  rw [e] at h
  rw [← h]
  simp

set_option maxHeartbeats 1600000 in
theorem shiftBack_raw (g n c sh : Nat) (N : List Nat) (w : World) (hr : Row w g N) (hn : N.length = n) (hl : Lims N) (hb : n ≤ 35184372088833) (hc : n ≤ c) (hs : sh ≤ 31) :
    Calls Try.prog 82 #[.slice (some ⟨g, 0, none⟩) n c, .int .i64 (sh : Int)] w (BackPost w g sh N) := by
  go_enter Try.func82, Try.ntmps82
  go_wp2
  go_loopw [8] (fun i wr => ∃ (k : Nat) (M : List Nat), k ≤ n ∧ i = .int .i64 k ∧ M.length = k ∧ Lims M ∧ val M + B32 ^ k * (val (N.drop k) / 2 ^ sh) = val N / 2 ^ sh ∧ Row wr g (M ++ N.drop k) ∧ w.grownBy wr (some g)) (fun i _ => n - (intOf i).toNat)
  case atStart => exact ⟨0, [], by omega, rfl, rfl, (by intro x hx; cases hx), by simp [val], by simpa using hr, gb_refl _ _⟩
  case round =>
    obtain ⟨k, M, hk, rfl, hM, hMl, hv, hrow, hg⟩ := hrel
    by_cases hlt : k < n
    · have HS := hid (back_step hs hl hM hv)
      have hco := hrow.cell k (by simp; omega)
      have hfo := hrow.frozen k
      have e1 : (M ++ N.drop k).getD k 0 = N.getD k 0 := by
        simp only [List.getD_eq_getElem?_getD]
        rw [List.getElem?_append_right (by omega), hM, Nat.sub_self, List.getElem?_drop, Nat.add_zero]
      rw [e1] at hco
      have hlo1 := lims_getD hl k
      have hlo2 := lims_getD hl (k + 1)
      have HR : Hid (∀ d : Nat, Row (wr.setCell ⟨g, k, none⟩ (.int .u32 (d : Int))) g ((M ++ [d]) ++ N.drop (k + 1))) := fun d => by
        have h := hrow.set k d (by simp; omega)
        rw [List.set_append_right _ _ (by omega), hM, Nat.sub_self, List.drop_eq_getElem_cons (by omega), List.set_cons_zero] at h
        rw [List.append_assoc]; exact h
      have HZ : Hid (¬ k + 1 < n → N.getD (k + 1) 0 = 0) := fun h => by
        rw [List.getD_eq_getElem?_getD, List.getElem?_eq_none (by omega)]; rfl
      by_cases hk1 : k + 1 < n
      · have hco2 := hrow.cell (k + 1) (by simp; omega)
        have e2 : (M ++ N.drop k).getD (k + 1) 0 = N.getD (k + 1) 0 := by
          simp only [List.getD_eq_getElem?_getD]
          rw [List.getElem?_append_right (by omega), hM, Nat.add_sub_cancel_left, List.getElem?_drop]
        rw [e2] at hco2
        have hk1' : (k : Int) + 1 < (n : Int) := by omega
        clear hv e1 e2 hl hrow HZ hr
        generalize N.getD k 0 = p at *
        generalize N.getD (k + 1) 0 = q at *
        have hor := or_low p q hlo1 hlo2
        generalize hS : 2 ^ sh = S at *
        generalize hpq : p + q * 4294967296 = pq at *
        go_wp2
        go_roundw
        case rel =>
          refine ⟨k + 1, M ++ [pq / S % 4294967296], by omega, by go_num, by simp; omega, lims_snoc hMl (by omega), HS.out, ?_, gb_set hg _ _ (.inl rfl)⟩
          have := HR.out (pq / S % 4294967296)
          have ev : (pq : Int) / 2 ^ sh % 4294967296 = ((pq / S % 4294967296 : Nat) : Int) := by rw [← hS]; simp
          first | exact this | (rw [ev]; exact this)
        case measure => simp [intOf]; omega
      · have hk1' : ¬ (k : Int) + 1 < (n : Int) := by omega
        rw [HZ.out hk1, Nat.zero_mul, Nat.add_zero] at HS
        clear hv e1 hl hrow HZ hr hlo2
        generalize N.getD k 0 = p at *
        generalize hS : 2 ^ sh = S at *
        go_wp2
        go_roundw
        case rel =>
          refine ⟨k + 1, M ++ [p / S % 4294967296], by omega, by go_num, by simp; omega, lims_snoc hMl (by omega), HS.out, ?_, gb_set hg _ _ (.inl rfl)⟩
          have := HR.out (p / S % 4294967296)
          have ev : (p : Int) / 2 ^ sh % 4294967296 = ((p / S % 4294967296 : Nat) : Int) := by rw [← hS]; simp
          first | exact this | (rw [ev]; exact this)
        case measure => simp [intOf]; omega
    · have hkn : k = n := by omega
      subst hkn
      rw [List.drop_of_length_le (by omega), List.append_nil] at hrow
      have HV : Hid (val M = val N / 2 ^ sh) := by
        rw [List.drop_of_length_le (by omega)] at hv
        show _ = _
        simpa [val] using hv
      go_wp2
      go_end0
      exact ⟨M, rfl, hrow, by omega, hMl, HV.out, hg⟩
end Go.Proofs.Ytonfnkchpicoiaa
