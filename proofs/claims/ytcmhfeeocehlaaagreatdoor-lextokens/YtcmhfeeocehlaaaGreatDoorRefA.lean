/-
  The reference: trim, at, natCmp, Norm, Valid, Sign, Cmp, Same, Is.
-/
import Derived.Test.YtcmhfeeocehlaaaGreatDoorBigB
import Derived.Test.YtcmhfeeocehlaaaGreatDoorBigC
namespace Go.Proofs.YtcmhfeeocehlaaaGreatDoor
set_option linter.unusedSimpArgs false
set_option linter.unusedVariables false
open Go.RowKit
attribute [local go_sem ↓] Go.wp_at_zero Go.wp_at_succ

/-- copy(out, x), out a row of k noughts, x no shorter -/
theorem wp_copy_cut {w : World} {ops : Array Oper} {rest : List Oper} {o : Oper} {act : Act} {Q : Exit → Act → World → Prop} (hgd : o.guard = none) (d s : Operand)
    (ho : o.op = .call { callee := .builtin .copy, args := #[d, s], argTypes := #[33, 33] })
    (a : Option Addr) (n c k g dc : Nat) (x : List Nat) (hd : act.eval d = .slice (some ⟨g, 0, none⟩) k dc) (hs : act.eval s = .slice a n c) (hx : SL w a n c x) (hk : k ≤ n) (hz : Made w g k)
    (h : ∀ w', Row w' g (x.take k) → w.grownBy w' (some g) → wpList Tryz.prog ops Q rest (act.put o.dst (goInt k)) w') : wpList Tryz.prog ops Q (o :: rest) act w := by
  have hxl := hx.len
  have htl : (x.take k).length = k := by rw [List.length_take]; omega
  by_cases h0 : k = 0
  · subst h0
    refine wpList_copy_nothing hgd d s 33 33 ho 84 Tryz.underlying33 u32_size _ a 0 dc n c hd hs (Nat.min_eq_right (by omega)) (h w ?_ (gb_refl _ _))
    have := hz.row
    simpa using this
  · obtain ⟨bx, ox, hax, hcx⟩ := hx.at'
    obtain ⟨rfl, _⟩ := hax (by omega)
    refine wpList_copy_own hgd d s 33 33 ho 84 Tryz.underlying33 u32_size g 0 k dc ⟨bx, ox, none⟩ n c hd hs (cl (List.replicate k 0)).toArray 84 hz (cl (x.take k)) (by rw [cl_length, htl]; exact (Nat.min_eq_right (by omega)).symm) ?_ (by simp [cl_length]; omega) (cl_one _) ?_
    · intro j v hv
      have hj : j < (x.take k).length := by
        have := (List.getElem?_eq_some_iff.1 hv).1
        simpa [cl] using this
      rw [cl_get _ j hj] at hv
      have hadd : (⟨bx, ox, none⟩ : Addr).add j = ⟨bx, ox + j, none⟩ := by simp [Addr.add]
      rw [hadd, ← hv, getD_take _ _ _ (by omega)]
      exact hcx j (by omega)
    · have h2 := h (w.setRow g ((cl (List.replicate k 0)).toArray.toList.take 0 ++ (cl (x.take k) ++ (cl (List.replicate k 0)).toArray.toList.drop (0 + (cl (x.take k)).length))).toArray) ⟨[], ?_⟩ ⟨rfl, rfl, rfl, by simp [World.setRow], fun i hi hne => setRow_other w g i _ (fun e => hne (by rw [e]))⟩
      · rw [cl_length, htl] at h2 ⊢
        exact h2
      · rw [setRow_heap w g _ _ _ _ hz]
        simp only [List.append_nil, cl_length, htl, List.toList_toArray, List.take_zero, List.nil_append, Nat.zero_add, cl_drop, List.drop_replicate, Nat.sub_self, List.replicate_zero]
        simp [cl]

/-- what the reference's trim answers: the limbs in new memory -/
def RTrimPost (w : World) (l : List Nat) (e : Ending) (w' : World) : Prop :=
  ∃ g, e = .returned (.slice (some ⟨g, 0, none⟩) (tr l).length (tr l).length) ∧ Row w' g (tr l) ∧ w.heap.size ≤ g ∧ w.grownBy w' none

set_option maxHeartbeats 800000 in
theorem rtrim_raw (a : Option Addr) (n c : Nat) (l : List Nat) (w : World) (h : SL w a n c l) :
    Calls Tryz.prog 70 #[.slice a n c] w (RTrimPost w l) := by
  have hx := h
  obtain ⟨hlen, hcap, hbig, hcm, hlim, hnil, b, off, ha, hcell⟩ := h
  have hle := tl_le l n
  go_enter Tryz.func70, Tryz.ntmps70
  go_wp2
  go_loop [3] (fun i => ∃ k : Nat, k ≤ n ∧ i = .int .i64 k ∧ tl l k = tl l n) (fun i => (intOf i).toNat)
  case atStart => exact ⟨n, Nat.le_refl _, rfl, rfl⟩
  case round =>
    obtain ⟨k, hk, rfl, he⟩ := hrel
    have HE : Hid (tl l k = tl l n) := he
    clear he
    by_cases hz : k = 0 ∨ (0 < k ∧ l.getD (k - 1) 0 ≠ 0)
    · have hkk : tl l k = k := by
        rcases hz with rfl | hz
        · rfl
        · cases k with
          | zero => rfl
          | succ m => rw [tl, if_neg (by simpa using hz.2)]
      have HK : Hid ((tr l).length = k) := by
        show _ = _
        rw [tr_length, hlen, ← HE.out, hkk]
      have htr : tr l = l.take k := by unfold tr; rw [hlen, ← HE.out, hkk]
      have HTR := hid1 htr
      have hmk := fun u => make_row k (by omega) u
      have hzz := Made.new w k
      have hx1 := hx.grown (World.grownBy_alloc w (.cells (madeCells #[.int .u32 0] k) 84) none)
      have hfin : ∀ w2 : World, Row w2 w.heap.size (l.take k) → (w.alloc (.cells (madeCells #[.int .u32 0] k) 84)).grownBy w2 (some w.heap.size) → RTrimPost w l (.returned (.slice (some ⟨w.heap.size, 0, none⟩) k k)) w2 := by
        intro w2 hr2 hg2
        refine ⟨w.heap.size, by rw [HK.out], by rw [HTR.out]; exact hr2, Nat.le_refl _, gb_then (World.grownBy_alloc w _ none) hg2 (fun i e => by cases e; exact Nat.le_refl _)⟩
      have HF := hid1 hfin
      clear hfin htr hkk
      rcases hz with rfl | hz
      · clear hcell ha
        have hmk0 : ∀ u, (Instr.makeSlice 33 (.int .i64 0) (.int .i64 0)).run Tryz.prog u = _ := fun u => make_row 0 (by omega) u
        go_wp2_with (refine wp_copy_cut rfl (.tmp 21) (.tmp 22) rfl a n c 0 w.heap.size 0 l rfl rfl hx1 (by omega) hzz ?_; intro w2 hr2 hg2)
        go_ret
        exact HF.out w2 hr2 hg2
      · obtain ⟨hk0, hz⟩ := hz
        obtain ⟨m, rfl⟩ : ∃ m, k = m + 1 := ⟨k - 1, by omega⟩
        rw [Nat.add_sub_cancel] at hz
        obtain ⟨rfl, _⟩ := ha (by omega)
        have hcm := hcell m (by omega)
        have hne : (((l.getD m 0 : Nat) : Int) == 0) = false := by rw [beq_eq_false_iff_ne]; omega
        have ec : ((m + 1 : Nat) : Int) = (m : Int) + 1 := by omega
        have hmk1 := hmk
        rw [ec] at hmk1
        clear hcell ha
        generalize l.getD m 0 = p at *
        go_wp2_with (refine wp_copy_cut rfl (.tmp 21) (.tmp 22) rfl _ n c (m + 1) w.heap.size (m + 1) l rfl rfl hx1 (by omega) hzz ?_; intro w2 hr2 hg2)
        go_ret
        exact HF.out w2 hr2 hg2
    · have hk0 : k ≠ 0 := fun e => hz (.inl e)
      obtain ⟨m, rfl⟩ : ∃ m, k = m + 1 := ⟨k - 1, by omega⟩
      have hz2 : l.getD m 0 = 0 := by
        by_cases h : l.getD m 0 = 0
        · exact h
        · exact absurd (.inr ⟨by omega, by simpa using h⟩) hz
      obtain ⟨rfl, _⟩ := ha (by omega)
      have hcm := hcell m (by omega)
      rw [hz2] at hcm
      have HZ := hid1 hz2
      clear hcell ha hz2 hz
      go_wp2
      go_round
      case rel => exact ⟨m, by omega, by go_num, by rw [← HE.out, tl_zero l m HZ.out]⟩
      case measure => simp [intOf]
end Go.Proofs.YtcmhfeeocehlaaaGreatDoor
namespace Go.Proofs.YtcmhfeeocehlaaaGreatDoor
set_option linter.unusedSimpArgs false
set_option linter.unusedVariables false
open Go.RowKit
attribute [local go_sem ↓] Go.wp_at_zero Go.wp_at_succ

set_option maxHeartbeats 400000 in
theorem at_raw (a : Option Addr) (n c k : Nat) (l : List Nat) (w : World) (h : SL w a n c l) (hk : k ≤ 1000000000000000) :
    Calls Tryz.prog 51 #[.slice a n c, .int .i64 (k : Int)] w fun e w' => e = .returned (.int .u64 ((l.getD k 0 : Nat) : Int)) ∧ w' = w := by
  obtain ⟨hlen, hcap, hbig, hcm, hlim, hnil, b, off, ha, hcell⟩ := h
  by_cases hlt : k < n
  · obtain ⟨rfl, _⟩ := ha (by omega)
    have hck := hcell k hlt
    have hl := lims_getD hlim k
    clear hcell ha
    generalize l.getD k 0 = p at *
    go_enter Tryz.func51, Tryz.ntmps51
    go_wp2
    go_ret
    exact ⟨rfl, rfl⟩
  · have HZ : Hid (l.getD k 0 = 0) := by
      show _ = _
      rw [List.getD_eq_getElem?_getD, List.getElem?_eq_none (by omega)]; rfl
    have hnlt : ¬ (k : Int) < (n : Int) := by omega
    clear hcell ha
    go_enter Tryz.func51, Tryz.ntmps51
    go_wp2
    go_ret
    exact ⟨by first | rfl | (rw [HZ.out]; rfl), rfl⟩

theorem natcmp_step {A B P p q : Nat} (hA : A < P) (hB : B < P) : sgn (((A + P * p : Nat) : Int) - ((B + P * q : Nat) : Int)) = if p < q then -1 else if q < p then 1 else sgn ((A : Int) - B) := by
  by_cases h1 : p < q
  · rw [if_pos h1]
    have : P * (p + 1) ≤ P * q := Nat.mul_le_mul_left _ h1
    rw [Nat.mul_add] at this
    unfold sgn; rw [if_pos (by omega)]
  · rw [if_neg h1]
    by_cases h2 : q < p
    · rw [if_pos h2]
      have : P * (q + 1) ≤ P * p := Nat.mul_le_mul_left _ h2
      rw [Nat.mul_add] at this
      unfold sgn; rw [if_neg (by omega), if_neg (by omega)]
    · have e : p = q := by omega
      subst e
      rw [if_neg h2]
      congr 1
      omega
theorem take_lt (l : List Nat) (h : Lims l) (k : Nat) : val (l.take k) < B32 ^ k := by
  have h1 := val_lt (l.take k) (lims_take h k)
  have h2 := pow_mono (show (l.take k).length ≤ k by rw [List.length_take]; omega)
  omega
theorem sgn_range (z : Int) : -1 ≤ sgn z ∧ sgn z ≤ 1 := by unfold sgn; split <;> (try split) <;> omega

set_option maxHeartbeats 1600000 in
theorem natCmp_raw (a b : Option Addr) (n m c d : Nat) (x y : List Nat) (w : World) (hx : SL w a n c x) (hy : SL w b m d y) (hn : n ≤ 100000000000000) (hm : m ≤ 100000000000000) :
    Calls Tryz.prog 21 #[.slice a n c, .slice b m d] w fun e w' => e = .returned (.int .i64 (sgn ((val x : Int) - val y))) ∧ w' = w := by
  have hxl := hx.len
  have hyl := hy.len
  go_enter Tryz.func21, Tryz.ntmps21
  go_wp2
  go_loop [5, 6] (fun o i => ∃ k : Nat, k ≤ 100000000000000 ∧ (k ≤ n ∨ k ≤ m) ∧ i = .int .i64 k ∧ o = .int .i64 (sgn ((val (x.take k) : Int) - val (y.take k)))) (fun _ i => n + m - (intOf i).toNat)
  case atStart => exact ⟨0, by omega, by omega, rfl, by simp [val, sgn]⟩
  case round =>
    obtain ⟨k, hk, hkk, rfl, rfl⟩ := hrel
    have HR := hid1 (sgn_range ((val (x.take k) : Int) - val (y.take k)))
    by_cases hlt : k < n ∨ k < m
    · have HS : Hid (sgn ((val (x.take (k + 1)) : Int) - val (y.take (k + 1))) = if x.getD k 0 < y.getD k 0 then -1 else if y.getD k 0 < x.getD k 0 then 1 else sgn ((val (x.take k) : Int) - val (y.take k))) := by
        show _ = _
        rw [val_take_succ, val_take_succ]
        exact natcmp_step (take_lt x hx.lim k) (take_lt y hy.lim k)
      have hg : (decide ((k : Int) < (n : Int)) || decide ((k : Int) < (m : Int))) = true := by simp; omega
      have hbx := lims_getD hx.lim k
      have hby := lims_getD hy.lim k
      have HX : Hid (∀ w', w' = w → Calls Tryz.prog 51 #[.slice a n c, .int .i64 (k : Int)] w' fun e w'' => e = .returned (.int .u64 ((x.getD k 0 : Nat) : Int)) ∧ w'' = w') := fun w' e => by subst e; exact at_raw a n c k x _ hx (by omega)
      have HY : Hid (∀ w', w' = w → Calls Tryz.prog 51 #[.slice b m d, .int .i64 (k : Int)] w' fun e w'' => e = .returned (.int .u64 ((y.getD k 0 : Nat) : Int)) ∧ w'' = w') := fun w' e => by subst e; exact at_raw b m d k y _ hy (by omega)
      generalize x.getD k 0 = p at *
      generalize y.getD k 0 = q at *
      generalize sgn ((val (x.take k) : Int) - val (y.take k)) = so at *
      by_cases h1 : p < q
      · have h2 : ¬ q < p := by omega
        rw [if_pos h1] at HS
        by_cases hkn : k < n
        · have hkn' : (k : Int) < (n : Int) := by omega
          all_goals
            go_wp2_with (first
              | (go_at_call_of 51 (Value.slice a n c); refine (HX.out _ rfl).mono ?_; rintro e w' ⟨rfl, rfl⟩)
              | (go_at_call_of 51 (Value.slice b m d); refine (HY.out _ rfl).mono ?_; rintro e w' ⟨rfl, rfl⟩))
            go_round
            case rel => exact ⟨k + 1, by omega, by omega, by go_num, by rw [HS.out]⟩
            case measure => simp [intOf]; omega
        · have hkn' : ¬ (k : Int) < (n : Int) := by omega
          have hkm' : (k : Int) < (m : Int) := by omega
          all_goals
            go_wp2_with (first
              | (go_at_call_of 51 (Value.slice a n c); refine (HX.out _ rfl).mono ?_; rintro e w' ⟨rfl, rfl⟩)
              | (go_at_call_of 51 (Value.slice b m d); refine (HY.out _ rfl).mono ?_; rintro e w' ⟨rfl, rfl⟩))
            go_round
            case rel => exact ⟨k + 1, by omega, by omega, by go_num, by rw [HS.out]⟩
            case measure => simp [intOf]; omega
      · rw [if_neg h1] at HS
        by_cases h2 : q < p
        · rw [if_pos h2] at HS
          by_cases hkn : k < n
          · have hkn' : (k : Int) < (n : Int) := by omega
            all_goals
              go_wp2_with (first
                | (go_at_call_of 51 (Value.slice a n c); refine (HX.out _ rfl).mono ?_; rintro e w' ⟨rfl, rfl⟩)
                | (go_at_call_of 51 (Value.slice b m d); refine (HY.out _ rfl).mono ?_; rintro e w' ⟨rfl, rfl⟩))
              go_round
              case rel => exact ⟨k + 1, by omega, by omega, by go_num, by rw [HS.out]⟩
              case measure => simp [intOf]; omega
          · have hkn' : ¬ (k : Int) < (n : Int) := by omega
            have hkm' : (k : Int) < (m : Int) := by omega
            all_goals
              go_wp2_with (first
                | (go_at_call_of 51 (Value.slice a n c); refine (HX.out _ rfl).mono ?_; rintro e w' ⟨rfl, rfl⟩)
                | (go_at_call_of 51 (Value.slice b m d); refine (HY.out _ rfl).mono ?_; rintro e w' ⟨rfl, rfl⟩))
              go_round
              case rel => exact ⟨k + 1, by omega, by omega, by go_num, by rw [HS.out]⟩
              case measure => simp [intOf]; omega
        · rw [if_neg h2] at HS
          by_cases hkn : k < n
          · have hkn' : (k : Int) < (n : Int) := by omega
            all_goals
              go_wp2_with (first
                | (go_at_call_of 51 (Value.slice a n c); refine (HX.out _ rfl).mono ?_; rintro e w' ⟨rfl, rfl⟩)
                | (go_at_call_of 51 (Value.slice b m d); refine (HY.out _ rfl).mono ?_; rintro e w' ⟨rfl, rfl⟩))
              go_round
              case rel => exact ⟨k + 1, by omega, by omega, by go_num, by rw [HS.out]⟩
              case measure => simp [intOf]; omega
          · have hkn' : ¬ (k : Int) < (n : Int) := by omega
            have hkm' : (k : Int) < (m : Int) := by omega
            all_goals
              go_wp2_with (first
                | (go_at_call_of 51 (Value.slice a n c); refine (HX.out _ rfl).mono ?_; rintro e w' ⟨rfl, rfl⟩)
                | (go_at_call_of 51 (Value.slice b m d); refine (HY.out _ rfl).mono ?_; rintro e w' ⟨rfl, rfl⟩))
              go_round
              case rel => exact ⟨k + 1, by omega, by omega, by go_num, by rw [HS.out]⟩
              case measure => simp [intOf]; omega
    · have hk1 : ¬ (k : Int) < (n : Int) := by omega
      have hk2 : ¬ (k : Int) < (m : Int) := by omega
      have HE : Hid (sgn ((val (x.take k) : Int) - val (y.take k)) = sgn ((val x : Int) - val y)) := by
        show _ = _
        rw [List.take_of_length_le (by omega), List.take_of_length_le (by omega)]
      generalize sgn ((val (x.take k) : Int) - val (y.take k)) = so at *
      go_wp2
      go_ret
      exact ⟨ret_int1 HE.out, rfl⟩
end Go.Proofs.YtcmhfeeocehlaaaGreatDoor
namespace Go.Proofs.YtcmhfeeocehlaaaGreatDoor
set_option linter.unusedSimpArgs false
set_option linter.unusedVariables false
open Go.RowKit
attribute [local go_sem ↓] Go.wp_at_zero Go.wp_at_succ

/-- an integer as it should stand, in new memory (the reference's: 0 has limbs that are not nil) -/
def RIntPost (w : World) (z : Int) (k : Nat) (e : Ending) (w' : World) : Prop :=
  ∃ s a l, e = .returned (.agg #[.bool s, .slice a l.length l.length]) ∧ OW w' w.heap.size a l.length l.length l ∧ Nrm l ∧ (s = true → l ≠ []) ∧ iv s l = z ∧ l.length ≤ k ∧ w.grownBy w' none

theorem rint_end {w w3 : World} {g B k : Nat} {z : Int} {s : Bool} {a : Option Addr} {l : List Nat} (hg : w.grownBy w3 none) (ho : OW w3 B a l.length l.length l) (hgB : g < B) (hw : w.heap.size ≤ g) (hB : w.heap.size ≤ B)
    (hn : Nrm l) (hs : s = true → l ≠ []) (hz : iv s l = z) (hk : l.length ≤ k) (v0 v1 : Value) :
    RIntPost w z k (.returned (.agg #[.bool s, .slice a l.length l.length])) ((w3.setCell ⟨g, 0, none⟩ v0).setCell ⟨g, 1, none⟩ v1) := by
  have h3 : w3.grownBy ((w3.setCell ⟨g, 0, none⟩ v0).setCell ⟨g, 1, none⟩ v1) (some g) := gb_set (gb_set (gb_refl _ _) _ _ (.inl rfl)) _ _ (.inl rfl)
  exact ⟨s, a, l, rfl, (ho.kept h3 (fun i e => by cases e; exact ho.off hgB)).mono hB, hn, hs, hz, hk, gb_then hg h3 (fun i e => by cases e; exact hw)⟩

/-- what the reference's Norm answers, told of the limbs themselves -/
def RNormPost (w : World) (s : Bool) (x : List Nat) (e : Ending) (w' : World) : Prop :=
  ∃ a, e = .returned (.agg #[.bool (s && !decide (tr x = [])), .slice a (tr x).length (tr x).length]) ∧ OW w' w.heap.size a (tr x).length (tr x).length (tr x) ∧ w.grownBy w' none

set_option maxHeartbeats 800000 in
theorem rnorm_at (s : Bool) (a : Option Addr) (n c : Nat) (x : List Nat) (w : World) (hx : SL w a n c x) :
    Calls Tryz.prog 50 #[.agg #[.bool s, .slice a n c]] w (RNormPost w s x) := by
  have hd : decide (0 < (tr x).length) = !decide (tr x = []) := by cases h : tr x <;> simp
  have htl : (tr x).length ≤ 35184372088832 := by have := tr_le x; have := hx.len; have := hx.big; omega
  have hlt := lims_tr hx.lim
  cases s
  all_goals
    go_enter Tryz.func50, Tryz.ntmps50
    go_wp2_with (go_at_call 70; refine (rtrim_raw a n c x _ (by exact hx.grown (by repeat (first | exact gb_refl _ _ | apply gb_drew | apply gb_alloc | (refine gb_then ?_ (by assumption) (by simp)))))).mono ?_; rintro e w1 ⟨g1, rfl, hr1, hB1, hg1⟩; obtain ⟨hc1, hf1, hz1⟩ := box_kept w.heap.size hg1 (by first | (simp; done) | (simp; omega) | omega); obtain ⟨hd1, he1, hy1⟩ := box_kept (w.heap.size + 1) hg1 (by first | (simp; done) | (simp; omega) | omega))
  · refine bodyPost_ret (v := .agg #[.bool false, .slice (some ⟨g1, 0, none⟩) (tr x).length (tr x).length]) (by simp [results, Tryz.results50, go_sem, hd1, he1, hy1]) rfl ?_
    have ho := OW.of_row (L := []) (by simpa using hr1) hB1 rfl (Nat.le_refl _) htl (by omega) hlt
    have h3 : w1.grownBy ((w1.setCell ⟨w.heap.size + 1, 0, none⟩ (.bool false)).setCell ⟨w.heap.size + 1, 1, none⟩ (.slice (some ⟨g1, 0, none⟩) (tr x).length (tr x).length)) (some (w.heap.size + 1)) := gb_set (gb_set (gb_refl _ _) _ _ (.inl rfl)) _ _ (.inl rfl)
    exact ⟨_, by simp, (ho.kept h3 (fun i e => by cases e; exact ho.off (by first | (simp; done) | (simp; omega) | omega))).mono (by first | (simp; done) | (simp; omega) | omega), gb_then (show w.grownBy w1 none from (by repeat (first | exact gb_refl _ _ | apply gb_drew | apply gb_alloc | (refine gb_then ?_ (by assumption) (by simp))))) h3 (fun i e => by cases e; omega)⟩
  · refine bodyPost_ret (v := .agg #[.bool (!decide (tr x = [])), .slice (some ⟨g1, 0, none⟩) (tr x).length (tr x).length]) (by simp [results, Tryz.results50, go_sem, hd1, he1, hy1]) rfl ?_
    have ho := OW.of_row (L := []) (by simpa using hr1) hB1 rfl (Nat.le_refl _) htl (by omega) hlt
    have h3 : w1.grownBy ((w1.setCell ⟨w.heap.size + 1, 0, none⟩ (.bool (!decide (tr x = [])))).setCell ⟨w.heap.size + 1, 1, none⟩ (.slice (some ⟨g1, 0, none⟩) (tr x).length (tr x).length)) (some (w.heap.size + 1)) := gb_set (gb_set (gb_refl _ _) _ _ (.inl rfl)) _ _ (.inl rfl)
    exact ⟨_, by simp, (ho.kept h3 (fun i e => by cases e; exact ho.off (by first | (simp; done) | (simp; omega) | omega))).mono (by first | (simp; done) | (simp; omega) | omega), gb_then (show w.grownBy w1 none from (by repeat (first | exact gb_refl _ _ | apply gb_drew | apply gb_alloc | (refine gb_then ?_ (by assumption) (by simp))))) h3 (fun i e => by cases e; omega)⟩

theorem rnorm_raw (s : Bool) (a : Option Addr) (n c : Nat) (x : List Nat) (w : World) (hx : SL w a n c x) :
    Calls Tryz.prog 50 #[.agg #[.bool s, .slice a n c]] w (RIntPost w (iv s x) n) := by
  refine (rnorm_at s a n c x w hx).mono ?_
  rintro e w' ⟨a', rfl, ho, hg⟩
  refine ⟨_, a', tr x, rfl, ho, nrm_tr x, ?_, iv_tr s x, ?_, hg⟩
  · intro e; simp at e; exact e.2
  · have := tr_le x; have := hx.len; omega
end Go.Proofs.YtcmhfeeocehlaaaGreatDoor
namespace Go.Proofs.YtcmhfeeocehlaaaGreatDoor
set_option linter.unusedSimpArgs false
set_option linter.unusedVariables false
open Go.RowKit
attribute [local go_sem ↓] Go.wp_at_zero Go.wp_at_succ

set_option maxHeartbeats 800000 in
theorem rsign_raw (s : Bool) (a : Option Addr) (n c : Nat) (x : List Nat) (w : World) (hx : SL w a n c x) :
    Calls Tryz.prog 20 #[.agg #[.bool s, .slice a n c]] w (NumPost w (sgn (iv s x))) := by
  have HS := hid1 (sgn_iv s x)
  by_cases h0 : tr x = []
  · have hl : (((tr x).length : Int) == 0) = true := by rw [h0]; rfl
    rw [if_pos h0] at HS
    go_enter Tryz.func20, Tryz.ntmps20
    go_wp2_with (go_at_call 50; refine (rnorm_at s a n c x _ (by exact hx.grown (by repeat (first | exact gb_refl _ _ | apply gb_drew | apply gb_alloc | (refine gb_then ?_ (by assumption) (by simp)))))).mono ?_; rintro e w1 ⟨a1, rfl, ho1, hg1⟩)
    go_ret
    exact ⟨ret_int1 HS.out.symm, (by repeat (first | exact gb_refl _ _ | apply gb_drew | apply gb_alloc | (refine gb_then ?_ (by assumption) (by simp))))⟩
  · have hl : (((tr x).length : Int) == 0) = false := by
      rw [beq_eq_false_iff_ne]; have := List.length_pos_iff.2 h0; omega
    rw [if_neg h0] at HS
    have hdd : decide (tr x = []) = false := by simpa using h0
    cases s
    all_goals
      simp only [if_true, if_false, Bool.false_eq_true] at HS
      go_enter Tryz.func20, Tryz.ntmps20
      go_wp2_with (go_at_call 50; refine (rnorm_at _ a n c x _ (by exact hx.grown (by repeat (first | exact gb_refl _ _ | apply gb_drew | apply gb_alloc | (refine gb_then ?_ (by assumption) (by simp)))))).mono ?_; rintro e w1 ⟨a1, rfl, ho1, hg1⟩)
      go_ret
      exact ⟨ret_int1 HS.out.symm, (by repeat (first | exact gb_refl _ _ | apply gb_drew | apply gb_alloc | (refine gb_then ?_ (by assumption) (by simp))))⟩

theorem rcmp_signs (s t : Bool) (x y : List Nat) (h : sgn (iv s x) ≠ sgn (iv t y)) : sgn (iv s x - iv t y) = if sgn (iv s x) < sgn (iv t y) then -1 else 1 := by
  generalize iv s x = p at *
  generalize iv t y = q at *
  unfold sgn at *
  repeat' split at h
  all_goals (repeat' split) <;> omega
theorem rcmp_pos (s t : Bool) (x y : List Nat) (h : sgn (iv s x) = sgn (iv t y)) (hp : ¬ sgn (iv s x) < 0) : sgn ((val x : Int) - val y) = sgn (iv s x - iv t y) := by
  have := cmp_pos s t x y h hp
  rwa [val_tr, val_tr] at this
theorem rcmp_neg (s t : Bool) (x y : List Nat) (h : sgn (iv s x) = sgn (iv t y)) (hp : sgn (iv s x) < 0) : - sgn ((val x : Int) - val y) = sgn (iv s x - iv t y) := by
  have := cmp_neg s t x y h hp
  rw [val_tr, val_tr] at this
  rw [← this]
  unfold sgn
  repeat' split
  all_goals omega

set_option maxHeartbeats 1600000 in
theorem rcmp_raw (s t : Bool) (a b : Option Addr) (n c m d : Nat) (x y : List Nat) (w : World) (hx : SL w a n c x) (hy : SL w b m d y) :
    Calls Tryz.prog 13 #[.agg #[.bool s, .slice a n c], .agg #[.bool t, .slice b m d]] w (NumPost w (sgn (iv s x - iv t y))) := by
  have hb1 := hx.big
  have hb2 := hy.big
  by_cases hst : sgn (iv s x) = sgn (iv t y)
  · have hne : (sgn (iv s x) != sgn (iv t y)) = false := by rw [hst]; simp
    by_cases hp : sgn (iv s x) < 0
    · have HS := hid1 (rcmp_neg s t x y hst hp)
      have hrg := sgn_range ((val x : Int) - val y)
      obtain ⟨hr1, hr2⟩ := hrg
      clear hst
      go_enter Tryz.func13, Tryz.ntmps13
      go_wp2_with (first
        | (go_at_call_of 20 (Value.agg #[Value.bool s, Value.slice a n c]); refine (rsign_raw s a n c x _ (by exact hx.grown (by repeat (first | exact gb_refl _ _ | apply gb_drew | apply gb_alloc | (refine gb_then ?_ (by assumption) (by simp)))))).mono ?_; rintro e w1 ⟨rfl, hg1⟩; obtain ⟨hc1, hf1, hz1⟩ := box_kept w.heap.size hg1 (by first | (simp; done) | (simp; omega) | omega); obtain ⟨hd1, he1, hy1⟩ := box_kept (w.heap.size + 1) hg1 (by first | (simp; done) | (simp; omega) | omega))
        | (go_at_call_of 20 (Value.agg #[Value.bool t, Value.slice b m d]); refine (rsign_raw t b m d y _ (by exact hy.grown (by repeat (first | exact gb_refl _ _ | apply gb_drew | apply gb_alloc | (refine gb_then ?_ (by assumption) (by simp)))))).mono ?_; rintro e w2 ⟨rfl, hg2⟩; obtain ⟨hc2, hf2, hz2⟩ := box_kept w.heap.size hg2 (by first | (simp; done) | (simp; omega) | omega); obtain ⟨hd2, he2, hy2⟩ := box_kept (w.heap.size + 1) hg2 (by first | (simp; done) | (simp; omega) | omega))
        | (go_at_call 21; refine (natCmp_raw a b n m c d x y _ (by exact hx.grown (by repeat (first | exact gb_refl _ _ | apply gb_drew | apply gb_alloc | (refine gb_then ?_ (by assumption) (by simp))))) (by exact hy.grown (by repeat (first | exact gb_refl _ _ | apply gb_drew | apply gb_alloc | (refine gb_then ?_ (by assumption) (by simp))))) (by omega) (by omega)).mono ?_; rintro e w3 ⟨rfl, rfl⟩))
      go_ret
      exact ⟨ret_int1 HS.out, (by repeat (first | exact gb_refl _ _ | apply gb_drew | apply gb_alloc | (refine gb_then ?_ (by assumption) (by simp))))⟩
    · have HS := hid1 (rcmp_pos s t x y hst hp)
      clear hst
      go_enter Tryz.func13, Tryz.ntmps13
      go_wp2_with (first
        | (go_at_call_of 20 (Value.agg #[Value.bool s, Value.slice a n c]); refine (rsign_raw s a n c x _ (by exact hx.grown (by repeat (first | exact gb_refl _ _ | apply gb_drew | apply gb_alloc | (refine gb_then ?_ (by assumption) (by simp)))))).mono ?_; rintro e w1 ⟨rfl, hg1⟩; obtain ⟨hc1, hf1, hz1⟩ := box_kept w.heap.size hg1 (by first | (simp; done) | (simp; omega) | omega); obtain ⟨hd1, he1, hy1⟩ := box_kept (w.heap.size + 1) hg1 (by first | (simp; done) | (simp; omega) | omega))
        | (go_at_call_of 20 (Value.agg #[Value.bool t, Value.slice b m d]); refine (rsign_raw t b m d y _ (by exact hy.grown (by repeat (first | exact gb_refl _ _ | apply gb_drew | apply gb_alloc | (refine gb_then ?_ (by assumption) (by simp)))))).mono ?_; rintro e w2 ⟨rfl, hg2⟩; obtain ⟨hc2, hf2, hz2⟩ := box_kept w.heap.size hg2 (by first | (simp; done) | (simp; omega) | omega); obtain ⟨hd2, he2, hy2⟩ := box_kept (w.heap.size + 1) hg2 (by first | (simp; done) | (simp; omega) | omega))
        | (go_at_call 21; refine (natCmp_raw a b n m c d x y _ (by exact hx.grown (by repeat (first | exact gb_refl _ _ | apply gb_drew | apply gb_alloc | (refine gb_then ?_ (by assumption) (by simp))))) (by exact hy.grown (by repeat (first | exact gb_refl _ _ | apply gb_drew | apply gb_alloc | (refine gb_then ?_ (by assumption) (by simp))))) (by omega) (by omega)).mono ?_; rintro e w3 ⟨rfl, rfl⟩))
      go_ret
      exact ⟨ret_int1 HS.out, (by repeat (first | exact gb_refl _ _ | apply gb_drew | apply gb_alloc | (refine gb_then ?_ (by assumption) (by simp))))⟩
  · have HS := hid1 (rcmp_signs s t x y hst)
    have hne : (sgn (iv s x) != sgn (iv t y)) = true := by rw [bne_iff_ne]; exact hst
    clear hst
    by_cases hlt : sgn (iv s x) < sgn (iv t y)
    all_goals
      simp only [hlt, if_true, if_false] at HS
      go_enter Tryz.func13, Tryz.ntmps13
      go_wp2_with (first
        | (go_at_call_of 20 (Value.agg #[Value.bool s, Value.slice a n c]); refine (rsign_raw s a n c x _ (by exact hx.grown (by repeat (first | exact gb_refl _ _ | apply gb_drew | apply gb_alloc | (refine gb_then ?_ (by assumption) (by simp)))))).mono ?_; rintro e w1 ⟨rfl, hg1⟩; obtain ⟨hc1, hf1, hz1⟩ := box_kept w.heap.size hg1 (by first | (simp; done) | (simp; omega) | omega); obtain ⟨hd1, he1, hy1⟩ := box_kept (w.heap.size + 1) hg1 (by first | (simp; done) | (simp; omega) | omega))
        | (go_at_call_of 20 (Value.agg #[Value.bool t, Value.slice b m d]); refine (rsign_raw t b m d y _ (by exact hy.grown (by repeat (first | exact gb_refl _ _ | apply gb_drew | apply gb_alloc | (refine gb_then ?_ (by assumption) (by simp)))))).mono ?_; rintro e w2 ⟨rfl, hg2⟩; obtain ⟨hc2, hf2, hz2⟩ := box_kept w.heap.size hg2 (by first | (simp; done) | (simp; omega) | omega); obtain ⟨hd2, he2, hy2⟩ := box_kept (w.heap.size + 1) hg2 (by first | (simp; done) | (simp; omega) | omega)))
      go_ret
      exact ⟨ret_int1 HS.out.symm, (by repeat (first | exact gb_refl _ _ | apply gb_drew | apply gb_alloc | (refine gb_then ?_ (by assumption) (by simp))))⟩

theorem sgn_zero (z : Int) : (sgn z == 0) = decide (z = 0) := by
  unfold sgn
  by_cases h : z = 0
  · subst h; rfl
  · have hd : decide (z = 0) = false := by simpa using h
    rw [hd]
    split <;> simp [h]

set_option maxHeartbeats 800000 in
theorem rsame_raw (s t : Bool) (a b : Option Addr) (n c m d : Nat) (x y : List Nat) (w : World) (hx : SL w a n c x) (hy : SL w b m d y) :
    Calls Tryz.prog 49 #[.agg #[.bool s, .slice a n c], .agg #[.bool t, .slice b m d]] w (BoolPost w (decide (iv s x = iv t y))) := by
  have HS : Hid ((sgn (iv s x - iv t y) == 0) = decide (iv s x = iv t y)) := by
    show _ = _
    rw [sgn_zero]
    congr 1
    simp only [eq_iff_iff]
    omega
  go_enter Tryz.func49, Tryz.ntmps49
  go_wp2_with (go_at_call 13; refine (rcmp_raw s t a b n c m d x y _ (by exact hx.grown (by repeat (first | exact gb_refl _ _ | apply gb_drew | apply gb_alloc | (refine gb_then ?_ (by assumption) (by simp))))) (by exact hy.grown (by repeat (first | exact gb_refl _ _ | apply gb_drew | apply gb_alloc | (refine gb_then ?_ (by assumption) (by simp)))))).mono ?_; rintro e w1 ⟨rfl, hg1⟩)
  go_ret
  exact ⟨ret_bool1 HS.out, (by repeat (first | exact gb_refl _ _ | apply gb_drew | apply gb_alloc | (refine gb_then ?_ (by assumption) (by simp))))⟩

set_option maxHeartbeats 800000 in
theorem rvalid_raw (s : Bool) (a : Option Addr) (n c : Nat) (x : List Nat) (w : World) (hx : SL w a n c x) :
    Calls Tryz.prog 48 #[.agg #[.bool s, .slice a n c]] w (BoolPost w (Std s x)) := by
  have hl := hx.len
  have HS : Hid (Std s x = (((s && !decide (tr x = [])) == s) && (((tr x).length : Int) == (n : Int)))) := by
    show _ = _
    unfold Std
    by_cases h0 : x.length = 0
    · have hx0 : x = [] := List.length_eq_zero_iff.1 h0
      have ht : tr x = [] := by subst hx0; rfl
      rw [if_pos h0, ht]
      have : n = 0 := by omega
      subst this
      cases s <;> rfl
    · rw [if_neg h0, ← hl]
      by_cases h1 : (tr x).length = x.length
      · have h2 : tr x ≠ [] := by intro e; rw [e] at h1; simp at h1; omega
        rw [h1]
        cases s <;> simp [h2]
      · have : (((tr x).length : Int) == (x.length : Int)) = false := by rw [beq_eq_false_iff_ne]; omega
        rw [this, Bool.and_false]
        simpa using h1
  obtain ⟨s', hs'⟩ : ∃ s', (s && !decide (tr x = [])) = s' := ⟨_, rfl⟩
  rw [hs'] at HS
  have hN : ∀ w' : World, SL w' a n c x → Calls Tryz.prog 50 #[.agg #[.bool s, .slice a n c]] w' fun e w'' => ∃ a', e = .returned (.agg #[.bool s', .slice a' (tr x).length (tr x).length]) ∧ w'.grownBy w'' none := fun w' h => by
    refine (rnorm_at s a n c x w' h).mono ?_
    rintro e w'' ⟨a', rfl, _, hg⟩
    exact ⟨a', by rw [hs'], hg⟩
  have HN := hid1 hN
  clear hN hs'
  by_cases hg : (s' == s) = true
  · rw [hg] at HS
    go_enter Tryz.func48, Tryz.ntmps48
    go_wp2_with (go_at_call 50; refine (HN.out _ (by exact hx.grown (by repeat (first | exact gb_refl _ _ | apply gb_drew | apply gb_alloc | (refine gb_then ?_ (by assumption) (by simp)))))).mono ?_; rintro e w1 ⟨a1, rfl, hg1⟩; obtain ⟨hc1, hf1, hz1⟩ := box_kept w.heap.size hg1 (by first | (simp; done) | (simp; omega) | omega))
    go_ret
    exact ⟨ret_bool1 (by rw [HS.out]; simp), (by repeat (first | exact gb_refl _ _ | apply gb_drew | apply gb_alloc | (refine gb_then ?_ (by assumption) (by simp))))⟩
  · rw [Bool.not_eq_true] at hg
    rw [hg] at HS
    go_enter Tryz.func48, Tryz.ntmps48
    go_wp2_with (go_at_call 50; refine (HN.out _ (by exact hx.grown (by repeat (first | exact gb_refl _ _ | apply gb_drew | apply gb_alloc | (refine gb_then ?_ (by assumption) (by simp)))))).mono ?_; rintro e w1 ⟨a1, rfl, hg1⟩; obtain ⟨hc1, hf1, hz1⟩ := box_kept w.heap.size hg1 (by first | (simp; done) | (simp; omega) | omega))
    go_ret
    exact ⟨ret_bool1 (by rw [HS.out]; simp), (by repeat (first | exact gb_refl _ _ | apply gb_drew | apply gb_alloc | (refine gb_then ?_ (by assumption) (by simp))))⟩

set_option maxHeartbeats 1600000 in
theorem ris_raw (s t : Bool) (a b : Option Addr) (n c m d : Nat) (x y : List Nat) (w : World) (hx : SL w a n c x) (hy : SL w b m d y) :
    Calls Tryz.prog 19 #[.agg #[.bool s, .slice a n c], .agg #[.bool t, .slice b m d]] w (BoolPost w (Std s x && decide (iv s x = iv t y))) := by
  obtain ⟨p, hp⟩ : ∃ p, Std s x = p := ⟨_, rfl⟩
  obtain ⟨q, hq⟩ : ∃ q, decide (iv s x = iv t y) = q := ⟨_, rfl⟩
  have HV : Hid (∀ w' : World, SL w' a n c x → Calls Tryz.prog 48 #[.agg #[.bool s, .slice a n c]] w' (BoolPost w' p)) := fun w' h => by rw [← hp]; exact rvalid_raw s a n c x w' h
  have HQ : Hid (∀ w' : World, SL w' a n c x → SL w' b m d y → Calls Tryz.prog 49 #[.agg #[.bool s, .slice a n c], .agg #[.bool t, .slice b m d]] w' (BoolPost w' q)) := fun w' h h' => by rw [← hq]; exact rsame_raw s t a b n c m d x y w' h h'
  rw [hp, hq]
  clear hp hq
  cases p
  all_goals
    go_enter Tryz.func19, Tryz.ntmps19
    go_wp2_with (first
      | (go_at_call 48; refine (HV.out _ (by exact hx.grown (by repeat (first | exact gb_refl _ _ | apply gb_drew | apply gb_alloc | (refine gb_then ?_ (by assumption) (by simp)))))).mono ?_; rintro e w1 ⟨rfl, hg1⟩; obtain ⟨hc1, hf1, hz1⟩ := box_kept w.heap.size hg1 (by first | (simp; done) | (simp; omega) | omega); obtain ⟨hd1, he1, hy1⟩ := box_kept (w.heap.size + 1) hg1 (by first | (simp; done) | (simp; omega) | omega))
      | (go_at_call 49; refine (HQ.out _ (by exact hx.grown (by repeat (first | exact gb_refl _ _ | apply gb_drew | apply gb_alloc | (refine gb_then ?_ (by assumption) (by simp))))) (by exact hy.grown (by repeat (first | exact gb_refl _ _ | apply gb_drew | apply gb_alloc | (refine gb_then ?_ (by assumption) (by simp)))))).mono ?_; rintro e w2 ⟨rfl, hg2⟩))
    go_ret
    exact ⟨ret_bool1 (by simp), (by repeat (first | exact gb_refl _ _ | apply gb_drew | apply gb_alloc | (refine gb_then ?_ (by assumption) (by simp))))⟩

/-- a number that stands as it should is just that number -/
theorem std_of {s : Bool} {l : List Nat} (hn : Nrm l) (hs : s = true → l ≠ []) : Std s l = true := by
  unfold Std
  by_cases h0 : l.length = 0
  · rw [if_pos h0]
    have : l = [] := List.length_eq_zero_iff.1 h0
    cases s
    · rfl
    · exact absurd this (hs rfl)
  · rw [if_neg h0]
    have hl : l ≠ [] := by intro e; rw [e] at h0; simp at h0
    have hnz : l.getD (l.length - 1) 0 ≠ 0 := by
      rcases hn with hn | hn
      · exact absurd hn hl
      · exact hn
    have e : tl l l.length = l.length := by
      obtain ⟨m, hm⟩ : ∃ m, l.length = m + 1 := ⟨l.length - 1, by omega⟩
      rw [hm] at hnz ⊢
      rw [tl, if_neg (by simpa using hnz)]
    rw [tr_length, e]
    simp
end Go.Proofs.YtcmhfeeocehlaaaGreatDoor
