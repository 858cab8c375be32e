/-
  The reference: natMul.
-/
import Derived.Test.YtonfnkchpicoiaaRefNat
import Derived.Test.YtonfnkchpicoiaaInt64b
namespace Go.Proofs.Ytonfnkchpicoiaa
set_option linter.unusedSimpArgs false
set_option linter.unusedVariables false
open Go.RowKit
attribute [local go_sem ↓] Go.wp_at_zero Go.wp_at_succ

theorem nrm_len {l : List Nat} {j : Nat} (h : Nrm l) (hv : val l < B32 ^ j) : l.length ≤ j := by
  by_cases h0 : l = []
  · rw [h0]; simp
  · have h1 := nrm_pos h h0
    by_cases h2 : j < l.length
    · have := pow_mono (show j ≤ l.length - 1 by omega)
      omega
    · omega
theorem mul_lt_pow {a b p q : Nat} (ha : a < B32 ^ p) (hb : b < B32 ^ q) : a * b < B32 ^ (p + q) := by
  rw [Nat.pow_add]
  exact Nat.mul_lt_mul'' ha hb
theorem mulrow_step {O X Y p : Nat} {D : Nat} (h : O = X * Y) (hD : D = X * 4294967296 + p) : 0 + B32 * O + (Y * p + 0) = D * Y := by
  subst h; subst hD
  rw [← B32_eq]
  grind

theorem up_sl {wr w2 w3 : World} {ao : Option Addr} {no g k : Nat} {O : List Nat} (hO : SL wr ao no no O) (hl : O.length = no) (hr : Row w2 g (List.replicate 1 0 ++ O ++ List.replicate k 0)) (hg : w2.grownBy w3 none) (hn : no + 1 ≤ 35184372088832) : SL w3 (some ⟨g, 0, none⟩) (no + 1) (no + 1) (0 :: O) := by
  have hr' : Row w2 g ((0 :: O) ++ List.replicate k 0) := hr
  refine OW.sl (B := 0) (OW.of_row (hr'.kept hg (by simp)) (Nat.zero_le _) (by simp; exact hl) (Nat.le_refl _) hn (by omega) ?_)
  intro z hz
  rcases List.mem_cons.1 hz with rfl | hz
  · omega
  · exact hO.lim z hz

set_option maxHeartbeats 1600000 in
theorem natMul_wide (a b : Option Addr) (n c m d : Nat) (x y : List Nat) (w : World) (hx : SL w a n c x) (hy : SL w b m d y) (M : Nat) (hn : n + 2 ≤ 35184372088832) (hm : m + 2 ≤ 35184372088832) (hM : M + 2 ≤ 35184372088832) (hMv : val x * val y < B32 ^ M) :
    Calls Try.prog 56 #[.slice a n c, .slice b m d] w (RNat w (val x * val y) M) := by
  have htx := tr_le x
  have hxl := hx.len
  have hyl := hy.len
  have hlimt := lims_tr hx.lim
  have HMV := hid hMv
  clear hMv
  go_enter Try.func56, Try.ntmps56
  go_wp2_with (go_at_call 47; refine (rtrim_raw a n c x _ hx).mono ?_; rintro e w1 ⟨gx, rfl, hr1, hB1, hg1⟩)
  have hgx := hr1.lt
  have hy1 := hy.grown hg1
  go_loopw [6, 7] (fun o i wr => ∃ (k : Nat) (ao : Option Addr) (no : Nat) (O : List Nat), k ≤ (tr x).length ∧ i = .int .i64 ((k : Int) - 1) ∧ o = .slice ao no no ∧ SL wr ao no no O ∧ Nrm O ∧ val O = val ((tr x).drop k) * val y ∧ w1.grownBy wr none) (fun _ i _ => (intOf i + 1).toNat)
  case atStart => exact ⟨(tr x).length, none, 0, [], Nat.le_refl _, by go_num, rfl, SL.nil' _, .inl rfl, by rw [List.drop_of_length_le (Nat.le_refl _)]; simp [val], gb_refl _ _⟩
  case round =>
    obtain ⟨k, ao, no, O, hk, rfl, rfl, hO, hOn, hv, hg⟩ := hrel
    have HV := hid hv
    have hOl := hO.len
    have hno : no ≤ M := by
      rw [← hOl]
      refine nrm_len hOn (Nat.lt_of_le_of_lt ?_ HMV.out)
      rw [hv, ← val_tr x]
      refine Nat.mul_le_mul_right _ ?_
      have h3 := val_split (tr x) k hk
      have h4 : 1 * val ((tr x).drop k) ≤ B32 ^ k * val ((tr x).drop k) := Nat.mul_le_mul_right _ (Nat.pow_pos B32_pos)
      omega
    have HOL := hid hOl
    clear hv hOl
    by_cases h0 : k = 0
    · subst h0
      go_wp2_with (go_at_call 47; refine (rtrim_raw ao no no O _ hO).mono ?_; rintro e w6 ⟨g6, rfl, hr6, hB6, hg6⟩)
      go_ret
      have hv := HV.out
      rw [List.drop_zero, val_tr] at hv
      have ht6 := tr_le O
      have hol := HOL.out
      refine ⟨g6, tr O, rfl, hr6, nrm_tr _, lims_tr hO.lim, by rw [val_tr, hv], by have := hg1.size; have := hg.size; omega, by omega, gb_then (gb_then hg1 hg (by simp)) hg6 (by simp)⟩
    · obtain ⟨j, rfl⟩ : ∃ j, k = j + 1 := ⟨k - 1, by omega⟩
      have em : ((j + 1 : Nat) : Int) - 1 = (j : Int) := by omega
      rw [em]
      have hmk := fun u => make_row (no + 1) (by omega) u
      have ec : ((no + 1 : Nat) : Int) = (no : Int) + 1 := by omega
      rw [ec] at hmk
      have hz := Made.new wr (no + 1)
      have hO1 := hO.grown (World.grownBy_alloc wr (.cells (madeCells #[.int .u32 0] (no + 1)) 47) none)
      have HD1 := hid (drop_val (tr x) j (by omega))
      have hlj := lims_getD hlimt j
      have hrx : Row wr gx (tr x) := hr1.kept hg (by simp)
      have hcx := hrx.cell j (by omega)
      have hxw := hrx.lt
      generalize hpj : (tr x).getD j 0 = p at *
      have HPJ := hid hpj
      clear hpj
      by_cases hno0 : no = 0
      · subst hno0
        have hmk0 : ∀ u, (Instr.makeSlice 22 (.int .i64 1) (.int .i64 1)).run Try.prog u = _ := fun u => make_row 1 (by omega) u
        have hz0 : Made (wr.alloc (.cells (madeCells #[.int .u32 0] 1) 47)) wr.heap.size 1 := hz
        have hO10 : SL (wr.alloc (.cells (madeCells #[.int .u32 0] 1) 47)) ao 0 0 O := hO1
        clear hmk hz hO1
        go_wp2_with (first
          | (refine wp_copy rfl (.tmp 23) (.tmp 24) rfl ao _ 0 0 1 1 wr.heap.size _ _ O rfl rfl hO10 (by omega) (by omega) hz0 (fun h => by omega) ?_; intro w2 hr2 hg2; have hcx2 : w2.cell? ⟨gx, j, none⟩ = some (.int .u32 ((p : Nat) : Int)) := gb_cell hg2 (gb_cell (World.grownBy_alloc wr _ none) hcx (by simp)) (by intro e; cases e; omega))
          | (go_at_call 72; refine (times_raw b m d p 0 y _ (by exact hy1.grown (gb_then (gb_alloc hg _) hg2 (fun i e => by cases e; have := hg.size; omega))) (by omega) hlj (by omega)).mono ?_; rintro e w3 ⟨g3, l3, rfl, hr3, hn3, hlm3, hv3, hB3, hk3, hg3⟩; have HV3 := hid hv3; clear hv3)
          | (go_at_call 54; refine (natAdd_wide _ _ (0 + 1) (0 + 1) _ _ (0 :: O) l3 _ (by exact up_sl hO HOL.out hr2 hg3 (by omega)) (by exact (RNat.ow hr3 hlm3 hB3 (by omega)).sl) (max (0 + 1) l3.length) (by omega) (by omega) (by omega)).mono ?_; rintro e w4 ⟨g4, l4, rfl, hr4, hn4, hlm4, hv4, hB4, hk4, hg4⟩; have HV4 := hid hv4; clear hv4))
        have hg4' : w1.grownBy w4 none := gb_then (gb_then (gb_then (gb_alloc hg _) hg2 (fun i e => by cases e; have := hg.size; omega)) hg3 (by simp)) hg4 (by simp)
        have hs4 := (RNat.ow hr4 hlm4 hB4 (by omega)).sl
        have hvf : val l4 = val ((tr x).drop j) * val y := by
          rw [HV4.out, HV3.out]
          exact mulrow_step HV.out HD1.out
        clear hg2 hg3 hg4 hr2 hr3 hr4 hcx2
        go_wp2
        go_roundw
        case rel => exact ⟨j, _, l4.length, l4, by omega, by go_num, rfl, hs4, hn4, hvf, hg4'⟩
        case measure => simp [intOf]
      · have hno1 : 1 ≤ no := by omega
        go_wp2_with (first
          | (refine wp_copy rfl (.tmp 23) (.tmp 24) rfl ao _ no no (no + 1) 1 wr.heap.size _ _ O rfl rfl hO1 (by omega) (by omega) hz (fun h => rfl) ?_; intro w2 hr2 hg2; have hcx2 : w2.cell? ⟨gx, j, none⟩ = some (.int .u32 ((p : Nat) : Int)) := gb_cell hg2 (gb_cell (World.grownBy_alloc wr _ none) hcx (by simp)) (by intro e; cases e; omega))
          | (go_at_call 72; refine (times_raw b m d p 0 y _ (by exact hy1.grown (gb_then (gb_alloc hg _) hg2 (fun i e => by cases e; have := hg.size; omega))) (by omega) hlj (by omega)).mono ?_; rintro e w3 ⟨g3, l3, rfl, hr3, hn3, hlm3, hv3, hB3, hk3, hg3⟩; have HV3 := hid hv3; clear hv3)
          | (go_at_call 54; refine (natAdd_wide _ _ (no + 1) (no + 1) _ _ (0 :: O) l3 _ (by exact up_sl hO HOL.out hr2 hg3 (by omega)) (by exact (RNat.ow hr3 hlm3 hB3 (by omega)).sl) (max (no + 1) l3.length) (by omega) (by omega) (by omega)).mono ?_; rintro e w4 ⟨g4, l4, rfl, hr4, hn4, hlm4, hv4, hB4, hk4, hg4⟩; have HV4 := hid hv4; clear hv4))
        have hg4' : w1.grownBy w4 none := gb_then (gb_then (gb_then (gb_alloc hg _) hg2 (fun i e => by cases e; have := hg.size; omega)) hg3 (by simp)) hg4 (by simp)
        have hs4 := (RNat.ow hr4 hlm4 hB4 (by omega)).sl
        have hvf : val l4 = val ((tr x).drop j) * val y := by
          rw [HV4.out, HV3.out]
          exact mulrow_step HV.out HD1.out
        clear hg2 hg3 hg4 hr2 hr3 hr4 hcx2
        go_wp2
        go_roundw
        case rel => exact ⟨j, _, l4.length, l4, by omega, by go_num, rfl, hs4, hn4, hvf, hg4'⟩
        case measure => simp [intOf]
theorem natMul_raw (a b : Option Addr) (n c m d : Nat) (x y : List Nat) (w : World) (hx : SL w a n c x) (hy : SL w b m d y) (hn : n ≤ 100000000) (hm : m ≤ 100000000) :
    Calls Try.prog 56 #[.slice a n c, .slice b m d] w (RNat w (val x * val y) (n + m)) := by
  refine natMul_wide a b n c m d x y w hx hy (n + m) (by omega) (by omega) (by omega) (mul_lt_pow ?_ ?_)
  · have := val_lt x hx.lim; rwa [hx.len] at this
  · have := val_lt y hy.lim; rwa [hy.len] at this
end Go.Proofs.Ytonfnkchpicoiaa
