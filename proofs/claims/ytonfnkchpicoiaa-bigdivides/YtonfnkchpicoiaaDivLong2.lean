/-
  divideLong: the walk.
-/
import Derived.Test.YtonfnkchpicoiaaDivLong
namespace Go.Proofs.Ytonfnkchpicoiaa
set_option linter.unusedSimpArgs false
set_option linter.unusedVariables false
open Go.RowKit
attribute [local go_sem ↓] Go.wp_at_zero Go.wp_at_succ

set_option maxHeartbeats 6400000 in
set_option maxRecDepth 100000 in
theorem divideLong_raw (a b : Option Addr) (n m c d k0 : Nat) (x y : List Nat) (w : World) (hx : SL w a m c x) (hy : SL w b (n + 2) d y) (ny : Nrm y) (hm : k0 + (n + 1) = m) (hk0 : 1 ≤ k0) (hbm : m + 1 ≤ 35184372088832) :
    Calls Try.prog 74 #[.slice a m c, .slice b (n + 2) d] w (DivPost w x y) := by
  have hxl := hx.len
  have hyl := hy.len
  have hxv := val_lt x hx.lim
  rw [hxl] at hxv
  have HXV := hid hxv
  have hyt : 0 < y.getD (n + 1) 0 := by
    rcases ny with h | h
    · rw [h] at hyl; simp at hyl
    · rw [hyl] at h
      have : n + 2 - 1 = n + 1 := rfl
      rw [this] at h
      omega
  have hytl := lims_getD hy.lim (n + 1)
  have hyt2 : ∃ b2 o2, b = some ⟨b2, o2, none⟩ ∧ w.cell? ⟨b2, o2 + (n + 1), none⟩ = some (.int .u32 ((y.getD (n + 1) 0 : Nat) : Int)) := by
    obtain ⟨b2, o2, ha, hc⟩ := hy.at'
    exact ⟨b2, o2, (ha (by omega)).1, hc (n + 1) (by omega)⟩
  obtain ⟨b2, o2, rfl, hcy⟩ := hyt2
  have HL := hid (fun w => lead_raw (y.getD (n + 1) 0) w hytl hyt)
  clear hxv hytl hyt
  generalize hyg : y.getD (n + 1) 0 = yt at *
  have HYG := hid hyg
  clear hyg
  have e1 : (n : Int) + 2 - 1 = (n : Int) + 1 := by omega
  have hb1 : (0 : Int) ≤ (n : Int) + 2 := by omega
  have hb2 : (n : Int) + 2 ≤ (n : Int) + 2 + 1 := by omega
  have hb4 : ((n : Int) + 2).toNat = n + 2 := by omega
  have e2 : (m : Int) - ((n : Int) + 2) + 1 = (k0 : Int) := by omega
  go_enter Try.func74, Try.ntmps74
  go_wp2_with (go_at_call 79; refine (HL.out _).mono ?_; rintro e w0 ⟨hww, sh, rfl, hsh, hsh1, hsh2⟩; subst w0; have HSH := hid (And.intro hsh1 hsh2); clear hsh1 hsh2)
  go_region_held3 (fun _ => True) (go_keep) (first
    | (go_at_call_of 80 (Value.slice a m c); refine (shifted_raw a m c sh x _ (by exact hx.grown (by repeat (first | exact gb_refl _ _ | apply gb_drew | apply gb_alloc | (refine gb_then ?_ (by assumption) (by simp))))) hsh).mono ?_; rintro e w1 ⟨gR, R0, rfl, hr1, hR0, hRl0, hv1, hB1, hg1⟩; have HV1 := hid hv1; clear hv1)
    | (go_at_call 80; have hgd := hg1; clear hgd; refine (shifted_raw _ (n + 2) d sh y _ (by exact hy.grown (by repeat (first | exact gb_refl _ _ | apply gb_drew | apply gb_alloc | (refine gb_then ?_ (by assumption) (by simp))))) hsh).mono ?_; rintro e w2 ⟨gY, Y, rfl, hr2, hYl, hYlim, hv2, hB2, hg2⟩; have HV2 := hid hv2; clear hv2))
  have hyl2 : y.length = n + 2 := hyl
  have hsh12 := HSH.out
  rw [← HYG.out] at hsh12
  obtain ⟨hYlt, hYge⟩ := top_fits hyl2 hy.lim hsh12.1 hsh12.2 hsh HV2.out
  have hYl3 : Y.length = n + 3 := by rw [hYl, hyl2]
  have hvV := take_same (Y := Y) (k := n + 2) (by omega) hYlt
  have hVl : (Y.take (n + 2)).length = n + 2 := by rw [List.length_take]; omega
  have hVlim := lims_take hYlim (n + 2)
  rw [← hvV] at hYge hYlt
  have hV1 := top_ge hVl hVlim hYge
  have hR0l : R0.length = m + 1 := by rw [hR0, hxl]
  have hfirst := first_less (k := k0) hR0l hm HXV.out hsh HV1.out _ hYge
  have hrY : Row w2 gY (Y.take (n + 2) ++ Y.drop (n + 2)) := by rw [List.take_append_drop]; exact hr2
  have hVv : val (Y.take (n + 2)) = val y * 2 ^ sh := by rw [hvV, HV2.out]
  have hgRl := hr1.lt
  have hgR2 : Row w2 gR R0 := hr1.kept hg2 (by simp)
  have hgYl := hrY.lt
  have hz1 := hg1.size
  have hz2 := hg2.size
  generalize Y.take (n + 2) = V at *
  generalize Y.drop (n + 2) = T at *
  have HVL := hid hYlt
  have HF := hid hfirst
  have HVV := hid hVv
  have hRY : gR ≠ gY := by
    have := hB2
    first | omega | (simp at this; omega)
  have hBR : w.heap.size ≤ gR := by
    have := hB1
    first | omega | (simp at this; omega)
  have G2 : w.grownBy w2 none := (by repeat (first | exact gb_refl _ _ | apply gb_drew | apply gb_alloc | (refine gb_then ?_ (by assumption) (by simp))))
  clear hYge hYlt hvV hYl3 hYlim hYl hr2 hr1 hR0 hfirst hVv hsh12 hg1 hg2 hB1 hB2
  have hmk := fun u => make_row k0 (by omega) u
  go_wp2
  have hQ0 := Row.made w2 k0
  go_loopw [7] (fun i wr => ∃ (k : Nat) (R Q : List Nat), k ≤ k0 ∧ i = .int .i64 ((k : Int) - 1) ∧ Row wr gR R ∧ R.length = m + 1 ∧ Lims R ∧ Row wr w2.heap.size (List.replicate k 0 ++ Q) ∧ Q.length = k0 - k ∧ Lims Q ∧ Row wr gY (V ++ T) ∧ val (R.drop k) < val V ∧ val R + B32 ^ k * (val Q * val V) = val x * 2 ^ sh ∧ w.grownBy wr none) (fun i _ => (intOf i + 1).toNat)
  case atStart => exact ⟨k0, R0, [], Nat.le_refl _, by go_num, hgR2.alloc _, hR0l, hRl0, by simpa using hQ0, by simp, (by intro z hz; cases hz), hrY.alloc _, HF.out, by rw [HV1.out]; simp [val], gb_alloc G2 _⟩
  case round =>
    obtain ⟨k, R, Q, hk, rfl, hrR, hRn, hRl, hrQ, hQn, hQl, hrV, hlessV, hv, hg⟩ := hrel
    have HV := hid hv
    have HLS := hid hlessV
    clear hv hlessV hQ0
    have hwQ := hrQ.lt
    have hwR := hrR.lt
    by_cases h0 : k = 0
    · subst h0
      have hRn0 : val R < val V := by have := HLS.out; rwa [List.drop_zero] at this
      have hfin := HV.out
      rw [Nat.pow_zero, Nat.one_mul] at hfin
      rw [HVV.out] at hfin hRn0
      obtain ⟨hq1, hq2⟩ := divl_end (Nat.two_pow_pos sh) hfin hRn0
      have HQ1 := hid hq1
      have HQ2 := hid hq2
      clear hRn0 hfin hq1 hq2
      rw [List.replicate_zero, List.nil_append] at hrQ
      have hQR : w2.heap.size ≠ gR := by omega
      go_wp2_with (go_at_call 82; refine (shiftBack_raw gR (m + 1) (m + 1) sh R _ hrR hRn hRl (by omega) (Nat.le_refl _) hsh).mono ?_; rintro e w5 ⟨M, rfl, hr5, hM, hMl, hv5, hg5⟩; have HV5 := hid hv5; clear hv5)
      go_ret2
      have hrQ5 : Row w5 w2.heap.size (Q ++ []) := by simpa using hrQ.kept hg5 (by simp; omega)
      have hMn : M.length = m + 1 := by omega
      have hQn0 : Q.length = k0 := by omega
      refine ⟨_, k0, k0, Q, _, m + 1, m + 1, M, rfl, OW.of_row hrQ5 G2.size hQn0 (Nat.le_refl _) (by omega) (by omega) hQl, OW.of_row (L := []) (by simpa using hr5) hBR hMn (Nat.le_refl _) (by omega) (by omega) hMl, ?_, ?_, ?_, by omega, by omega, ?_⟩
      · intro _ _ g o s g' o' s' h1 h2
        cases h1; cases h2
        exact hQR
      · rw [HV5.out]; exact HQ1.out
      · rw [HV5.out]; exact HQ2.out
      · exact gb_then hg hg5 (fun i e => by cases e; exact hBR)
    · obtain ⟨j, rfl⟩ : ∃ j, k = j + 1 := ⟨k - 1, by omega⟩
      have em : ((j + 1 : Nat) : Int) - 1 = (j : Int) := by omega
      rw [em]
      obtain ⟨P, u, S, hRe, hPl, hul⟩ : ∃ P u S, R = P ++ u ++ S ∧ P.length = j ∧ u.length = n + 3 := by
        refine ⟨R.take j, (R.drop j).take (n + 3), (R.drop j).drop (n + 3), ?_, by rw [List.length_take]; omega, by rw [List.length_take, List.length_drop]; omega⟩
        rw [List.append_assoc, List.take_append_drop, List.take_append_drop]
      subst hRe
      have hulim : Lims u := (lims_append.1 (lims_append.1 hRl).1).2
      have hPlim : Lims P := (lims_append.1 (lims_append.1 hRl).1).1
      have hSlim : Lims S := (lims_append.1 hRl).2
      have hdj : (P ++ u ++ S).drop j = u ++ S := by rw [List.append_assoc, ← hPl, List.drop_left]
      have hwin : val u + B32 ^ (n + 3) * val S < B32 * val V := by
        have e := drop_val2 (P ++ u ++ S) j
        rw [hdj, val_append, hul] at e
        have h1 := lims_getD hRl j
        have h2 := HLS.out
        have h3 : B32 * (val ((P ++ u ++ S).drop (j + 1)) + 1) ≤ B32 * val V := Nat.mul_le_mul_left _ h2
        rw [Nat.mul_add, Nat.mul_one] at h3
        rw [← B32_eq] at h1
        omega
      have hS0 : val S = 0 := by
        rcases Nat.eq_zero_or_pos (val S) with h | h
        · exact h
        · have h1 : B32 ^ (n + 3) * 1 ≤ B32 ^ (n + 3) * val S := Nat.mul_le_mul_left _ h
          have h2 : B32 * (val V + 1) ≤ B32 * B32 ^ (n + 2) := Nat.mul_le_mul_left _ HVL.out
          have h3 : B32 * B32 ^ (n + 2) = B32 ^ (n + 3) := by rw [Nat.pow_succ B32 (n + 2), Nat.mul_comm]
          rw [Nat.mul_add] at h2
          omega
      have huV : val u < B32 * val V := by omega
      have HS0 := hid hS0
      have HDJ := hid hdj
      clear hwin hdj hS0
      have su : SL wr (some ⟨gR, j, none⟩) (n + 3) (m + 1 - j) u := by
        have := SL.of_win (c := m + 1 - j) hrR hPl (by omega) (by omega) (by omega) hulim
        rwa [hul] at this
      have sV : SL wr (some ⟨gY, 0, none⟩) (n + 2) (n + 2 + 1) V := (OW.of_row (B := 0) hrV (Nat.zero_le _) hVl (by omega) (by omega) (by omega) hVlim).sl
      have hsl1 : (j : Int) + ((n : Int) + 2) + 1 = ((j + n + 3 : Nat) : Int) := by omega
      have hsub : j + n + 3 - j = n + 3 := by omega
      have hXE : val P + B32 ^ j * (val u + B32 ^ (n + 3) * 0) + (B32 ^ j * B32) * (val Q * val V) = val x * 2 ^ sh := by
        have h := HV.out
        rw [List.append_assoc, val_append, val_append, hPl, hul, HS0.out, Nat.pow_succ] at h
        exact h
      have HXE := hid hXE
      have huW := val_lt u hulim
      rw [hul] at huW
      have HUW := hid huW
      have hVW : val V < B32 ^ (n + 3) := Nat.lt_of_lt_of_le HVL.out (pow_mono (by omega))
      have HVW := hid hVW
      clear hXE huW hVW
      have hQR : w2.heap.size ≠ gR := by omega
      have HFIN : Hid (∀ (q : Nat) (M : List Nat) (w5 : World), M.length = n + 3 → Lims M → q < 4294967296 → val u = q * val V + val M → val M < val V → Row w5 gR (P ++ M ++ S) → w.grownBy w5 none → Row w5 w2.heap.size (List.replicate (j + 1) 0 ++ Q) → Row w5 gY (V ++ T) →
          ∃ (k : Nat) (R Q' : List Nat), k ≤ k0 ∧ Value.int .i64 ((j : Int) - 1) = .int .i64 ((k : Int) - 1) ∧ Row (w5.setCell ⟨w2.heap.size, j, none⟩ (.int .u32 (q : Int))) gR R ∧ R.length = m + 1 ∧ Lims R ∧ Row (w5.setCell ⟨w2.heap.size, j, none⟩ (.int .u32 (q : Int))) w2.heap.size (List.replicate k 0 ++ Q') ∧ Q'.length = k0 - k ∧ Lims Q' ∧ Row (w5.setCell ⟨w2.heap.size, j, none⟩ (.int .u32 (q : Int))) gY (V ++ T) ∧ val (R.drop k) < val V ∧ val R + B32 ^ k * (val Q' * val V) = val x * 2 ^ sh ∧ w.grownBy (w5.setCell ⟨w2.heap.size, j, none⟩ (.int .u32 (q : Int))) none) := by
        intro q M w5 hM hMl hq huq hMV h1 h2 h3 h4
        have hset : w5.grownBy (w5.setCell ⟨w2.heap.size, j, none⟩ (.int .u32 (q : Int))) (some w2.heap.size) := gb_set (gb_refl _ _) _ _ (.inl rfl)
        refine ⟨j, P ++ M ++ S, q :: Q, by omega, rfl, h1.kept hset (by simpa using hQR), by simp at hRn ⊢; omega, lims_append.2 ⟨lims_append.2 ⟨hPlim, hMl⟩, hSlim⟩, ?_, by simp; omega, ?_, h4.kept hset (by simp; omega), ?_, ?_, gb_set h2 _ _ (.inr (by have := G2.size; omega))⟩
        · have := h3.set j q (by simp; omega)
          rwa [rep_set2] at this
        · intro z hz
          rcases List.mem_cons.1 hz with rfl | hz
          · exact hq
          · exact hQl z hz
        · have e : (P ++ M ++ S).drop j = M ++ S := by rw [List.append_assoc, ← hPl, List.drop_left]
          rw [e, val_append, HS0.out, Nat.mul_zero, Nat.add_zero]
          exact hMV
        · rw [List.append_assoc, val_append, val_append, hPl, hM, HS0.out]
          exact divl_step HXE.out huq
      go_wp2_with fail
      refine (guess_raw _ _ n _ _ u V _ su sV huV hV1).mono ?_
      rintro e w3 ⟨dg, rfl, hdg, hdU, hdL, hg3⟩
      have HDU := hid hdU
      have HDL := hid hdL
      clear hdU hdL
      go_wp2_with fail
      refine (takeMultiple_raw gR j (n + 3) (m + 1 - j) P u S _ (n + 2) (n + 2 + 1) V dg _ (hrR.kept hg3 (by simp)) hPl hul hulim (by omega) (by omega) hdg (sV.grown hg3) (fun _ b off s e => by cases e; exact fun h => hRY h.symm) (by omega)).mono ?_
      rintro e w4 ⟨N, lack, rfl, hr4, hN, hNl, hlack, hv4, hg4⟩
      rw [hul] at hv4 hN
      have hNW := val_lt N hNl
      rw [hN] at hNW
      have hrQ4 : Row w4 w2.heap.size (List.replicate (j + 1) 0 ++ Q) := (hrQ.kept hg3 (by simp)).kept hg4 (by simp; omega)
      have hrV4 : Row w4 gY (V ++ T) := (hrV.kept hg3 (by simp)).kept hg4 (by simpa using hRY)
      have hG4 : w.grownBy w4 none := gb_then (gb_then hg hg3 (by simp)) hg4 (fun i e => by cases e; exact hBR)
      have sV4 : SL w4 (some ⟨gY, 0, none⟩) (n + 2) (n + 2 + 1) V := (OW.of_row (B := 0) hrV4 (Nat.zero_le _) hVl (by omega) (by omega) (by omega) hVlim).sl
      have HV4 := hid hv4
      have HNW := hid hNW
      clear hv4 hNW hg3 hg4 su sV hrR hrQ hrV
      by_cases hl0 : lack = 0
      · obtain ⟨hf1, hf2⟩ := take_right HV4.out HDU.out HUW.out HNW.out hl0
        subst hl0
        have HFF := hid (HFIN.out dg N w4 hN hNl (by omega) hf1 hf2 hr4 hG4 hrQ4 hrV4)
        have hcQ := hrQ4.cell j (by simp; omega)
        have hfQ := hrQ4.frozen j
        have hwQ4 := hrQ4.lt
        clear hf1 hf2
        go_wp2
        go_roundw
        case rel => exact HFF.out
        case measure => simp [intOf]
      · have hd1 : ∃ d1, dg = d1 + 1 := by
          rcases Nat.eq_zero_or_pos dg with h | h
          · have h2 := HV4.out
            have h3 : B32 ^ (n + 3) * 1 ≤ B32 ^ (n + 3) * lack := Nat.mul_le_mul_left _ (by omega)
            have h4 := HNW.out
            rw [h] at h2
            omega
          · exact ⟨dg - 1, by omega⟩
        obtain ⟨d1, rfl⟩ := hd1
        have em2 : ((d1 + 1 : Nat) : Int) - 1 = (d1 : Int) := by omega
        have em3 : (d1 : Int) + 1 - 1 = (d1 : Int) := by omega
        have hl0' : ((lack : Int) == 0) = false := by rw [beq_eq_false_iff_ne]; omega
        have hl0'' : ((lack : Int) != 0) = true := by rw [bne_iff_ne]; omega
        go_wp2_with fail
        refine (addInto_raw gR j (n + 3) (m + 1 - j) P N S _ (n + 2) (n + 2 + 1) V _ hr4 hPl hN hNl (by omega) (by omega) sV4 (fun _ b off s e => by cases e; exact fun h => hRY h.symm) (by omega)).mono ?_
        rintro e w5 ⟨M, cy, rfl, hr5, hM, hMl, hcy, hv5, hg5⟩
        rw [hN] at hv5 hM
        have hMW := val_lt M hMl
        rw [hM] at hMW
        obtain ⟨hf1, hf2⟩ := take_wrong HV4.out (HDL.out d1 rfl) HVW.out hMW hl0 HNW.out hv5
        have hrQ5 : Row w5 w2.heap.size (List.replicate (j + 1) 0 ++ Q) := hrQ4.kept hg5 (by simp; omega)
        have hrV5 : Row w5 gY (V ++ T) := hrV4.kept hg5 (by simpa using hRY)
        have hG5 : w.grownBy w5 none := gb_then hG4 hg5 (fun i e => by cases e; exact hBR)
        have HFF := hid (HFIN.out d1 M w5 hM hMl (by omega) hf1 hf2 hr5 hG5 hrQ5 hrV5)
        have hcQ := hrQ5.cell j (by simp; omega)
        have hfQ := hrQ5.frozen j
        have hwQ5 := hrQ5.lt
        clear hf1 hf2 hMW hv5
        go_wp2
        go_roundw
        case rel => exact HFF.out
        case measure => simp [intOf]
end Go.Proofs.Ytonfnkchpicoiaa
