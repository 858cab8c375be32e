/-
  The reference: natText, Text.
-/
import Derived.Test.YtonfnkchpicoiaaRefQuo
import Derived.Test.YtonfnkchpicoiaaText
import Derived.Test.YtonfnkchpicoiaaRefIs2
namespace Go.Proofs.Ytonfnkchpicoiaa
set_option linter.unusedSimpArgs false
set_option linter.unusedVariables false
open Go.RowKit
attribute [local go_sem ↓] Go.wp_at_zero Go.wp_at_succ

/-- make([]byte, n) -/
theorem make_bytes (n : Nat) (hn : n ≤ 70368744177664) (w : World) :
    (Instr.makeSlice 61 (.int .i64 (n : Int)) (.int .i64 (n : Int))).run Try.prog w = .ok (.slice (some ⟨w.heap.size, 0, none⟩) n n) (w.alloc (.cells (madeCells #[.int .u8 0] n) 5)) := by
  obtain ⟨i0, hi, hz0, hz1, hz2⟩ := info_parts u8_info
  have h := run_make (P := Try.prog) w 61 5 i0 (.int .u8 0) Try.underlying61 hi hz0 .i64 .i64 (n : Int) (n : Int) (by omega) (Int.le_refl _) (by rw [hz2]; omega) (by omega)
  rw [Int.toNat_natCast, hz1] at h
  simpa [Value.cells] using h
theorem bl_replicate (n : Nat) : bl (List.replicate n 0) = List.replicate n (Value.int .u8 0) := by simp [bl]
theorem made_bytes (w : World) (n : Nat) (hn : n ≤ 70368744177664) : (w.alloc (.cells (madeCells #[.int .u8 0] n) 5)).ownsRow w.heap.size 5 1 (.slice (some ⟨w.heap.size, 0, none⟩) n n) n (bl (List.replicate n 0)) := by
  have e : (madeCells #[Value.int .u8 0] n).toList = bl (List.replicate n 0) := by rw [bl_replicate, toList_madeCells_one]
  have h := World.ownsRow_lit (base := w.heap.size) (e := 5) (size := 1) w (madeCells #[.int .u8 0] n) n (Nat.le_refl _) (by unfold maxLen; omega) (by rw [← Array.length_toList, e]; simp [bl])
  rwa [e] at h

theorem turn_set (D : List Nat) (k n : Nat) (hD : D.length = n) (hk : k < n) : ((D.reverse.take k) ++ List.replicate (n - k) 0).set k (D.getD (n - 1 - k) 0) = (D.reverse.take (k + 1)) ++ List.replicate (n - (k + 1)) 0 := by
  have e1 : D.getD (n - 1 - k) 0 = D.reverse.getD k 0 := by
    rw [List.getD_eq_getElem?_getD, List.getD_eq_getElem?_getD, List.getElem?_reverse (by omega), hD]
  rw [e1, take_snoc D.reverse k (by simp; omega), List.set_append_right _ _ (by simp; omega)]
  have e2 : k - (D.reverse.take k).length = 0 := by simp; omega
  have e3 : n - k = (n - (k + 1)) + 1 := by omega
  rw [e2, e3, List.replicate_succ, List.set_cons_zero, List.append_assoc]
  rfl

/-- the decimal text of limbs -/
def IsNat (z : Nat) (t : List UInt8) : Prop := (z = 0 ∧ t = [48]) ∨ (z ≠ 0 ∧ t.all isDig = true ∧ t ≠ [] ∧ t.getD 0 0 ≠ 48 ∧ dval t = z)
def NatTextPost (w : World) (z k : Nat) (e : Ending) (w' : World) : Prop := ∃ t : ByteArray, e = .returned (.string t) ∧ IsNat z t.data.toList ∧ t.size ≤ k ∧ w.grownBy w' none

theorem dvl_top {V q r L : Nat} {M v : Nat} (h : M = v * 10 ^ L + V) (hv : v = q * 10 + r) : M = q * 10 ^ (L + 1) + (V + 10 ^ L * r) := by
  have e : (10 : Nat) ^ (L + 1) = 10 ^ L * 10 := Nat.pow_succ ..
  rw [e]
  exact grp_gen h hv

set_option maxHeartbeats 3200000 in
theorem natText_raw (a : Option Addr) (n c : Nat) (x : List Nat) (w : World) (hx : SL w a n c x) (hb : n ≤ 1000000000000) :
    Calls Try.prog 65 #[.slice a n c] w (NatTextPost w (val x) (11 * n + 20)) := by
  obtain ⟨i0, hi, hz0, hz1, hz2⟩ := info_parts u8_info
  have hxl := hx.len
  have hxlim := hx.lim
  have htx := tr_le x
  by_cases h0 : tr x = []
  · have hl : (((tr x).length : Int) == 0) = true := by rw [h0]; rfl
    have HZ : Hid (val x = 0) := by show _ = _; rw [← val_tr, h0]; rfl
    go_enter Try.func65, Try.ntmps65
    go_wp2_with (go_at_call 47; refine (rtrim_raw a n c x _ hx).mono ?_; rintro e w1 ⟨gx, rfl, hr1, hB1, hg1⟩)
    go_ret
    exact ⟨⟨#[48]⟩, rfl, .inl ⟨HZ.out, rfl⟩, by show 1 ≤ _; omega, hg1⟩
  · have hl : (((tr x).length : Int) == 0) = false := by rw [beq_eq_false_iff_ne]; have := List.length_pos_iff.2 h0; omega
    have hxp : val x ≠ 0 := fun e => h0 (val_zero_nrm (nrm_tr x) (by rw [val_tr]; exact e))
    have HXP := hid hxp
    clear hxp
    go_enter Try.func65, Try.ntmps65
    go_wp2_with (go_at_call 47; refine (rtrim_raw a n c x _ hx).mono ?_; rintro e w1 ⟨gx, rfl, hr1, hB1, hg1⟩)
    go_loopw [3, 4] (fun xs dg wr => ∃ (g nx : Nat) (X : List Nat) (ad : Option Addr) (nd cd : Nat) (D : List Nat), xs = .slice (some ⟨g, 0, none⟩) nx nx ∧ Row wr g X ∧ X.length = nx ∧ nx ≤ n ∧ Nrm X ∧ Lims X ∧
        dg = .slice ad nd cd ∧ wr.ownsRow w1.heap.size 5 1 (.slice ad nd cd) nd (bl D) ∧ Dgs D ∧ D.length = nd ∧ val x = val X * 10 ^ nd + dvl D ∧ nd ≤ 11 * n + 1 ∧ (X = [] → 0 < nd ∧ D.getD (nd - 1) 0 ≠ 48) ∧ w.grownBy wr none ∧ w1.heap.size ≤ wr.heap.size)
      (fun xs _ wr => val (readSlice xs wr))
    case atStart => exact ⟨gx, (tr x).length, tr x, none, 0, 0, [], rfl, hr1, rfl, by omega, nrm_tr x, lims_tr hxlim, rfl, World.ownsRow_nil _ _ _ _, (by intro y hy; cases hy), rfl, by rw [val_tr]; simp [dvl], by omega, fun e => absurd e h0, hg1, Nat.le_refl _⟩
    case round =>
      obtain ⟨g, nx, X, ad, nd, cd, D, rfl, hrow, hX, hnx, hXn, hXl, rfl, hown, hD, hDl, hv, hnd, hlast, hg, hsz⟩ := hrel
      have HV := hid hv
      clear hv
      by_cases hx0 : nx = 0
      · have hXe : X = [] := List.length_eq_zero_iff.1 (by omega)
        obtain ⟨hDp, hDt⟩ := hlast hXe
        subst hx0
        have HX : Hid (dvl D = val x) := by
          have := HV.out
          rw [hXe] at this
          show _ = _
          simpa [val] using this.symm
        obtain ⟨gd, capd, hvd, hgd, hgd2⟩ := hown.form hDp
        cases hvd
        obtain ⟨hcd1, hcd2⟩ := own_cap hown
        obtain ⟨wo, rfl⟩ : ∃ wo, wo = wr := ⟨_, rfl⟩
        have hmk := fun u => make_bytes nd (by omega) u
        have hmade := made_bytes wo nd (by omega)
        have hown2 := hown.alloc (.cells (madeCells #[.int .u8 0] nd) 5)
        have HT := hid hDt
        clear hrow hDt hlast
        go_wp2
        go_loopw [8] (fun i wq => ∃ k : Nat, k ≤ nd ∧ i = .int .i64 k ∧ wq.ownsRow wo.heap.size 5 1 (.slice (some ⟨wo.heap.size, 0, none⟩) nd nd) nd (bl (D.reverse.take k ++ List.replicate (nd - k) 0)) ∧ wq.ownsRow w1.heap.size 5 1 (.slice (some ⟨gd, 0, none⟩) nd cd) nd (bl D) ∧ w.grownBy wq none) (fun i _ => nd - (intOf i).toNat)
        case atStart => exact ⟨0, by omega, rfl, by simpa using hmade, hown2, gb_alloc hg _⟩
        case round =>
          obtain ⟨k, hk, rfl, ho1, ho2, hgq⟩ := hrel
          have hwl := (ho1.lt wo.heap.size rfl).2
          by_cases hlt : k < nd
          · have hc2 := ho2.cellAt (nd - 1 - k) (by omega)
            rw [bl_get D _ (by omega)] at hc2
            have hc1 := ho1.cellAt k (by omega)
            rw [bl_get _ _ (by simp; omega)] at hc1
            have hf1 := ho1.frozenAt k
            have hst := (ho1.stored k (.int .u8 ((D.getD (nd - 1 - k) 0 : Nat) : Int)))
            have hst1 := hst.1
            rw [bl_set, turn_set D k nd hDl hlt] at hst1
            have HST := hid hst1
            have ej : (nd : Int) - 1 - (k : Int) = ((nd - 1 - k : Nat) : Int) := by omega
            have hjn : nd - 1 - k < nd := by omega
            have HK2 : Hid (∀ v, (wr.setCell ⟨wo.heap.size, k, none⟩ v).ownsRow w1.heap.size 5 1 (.slice (some ⟨gd, 0, none⟩) nd cd) nd (bl D)) := fun v => ho2.kept (gb_set (gb_refl _ (some wo.heap.size)) _ _ (.inl rfl)) (.inr (by intro e; have : gd = wo.heap.size := Option.some.inj e; omega))
            have HGQ : Hid (∀ v, w.grownBy (wr.setCell ⟨wo.heap.size, k, none⟩ v) none) := fun v => gb_set hgq _ _ (.inr hg.size)
            clear hst hst1
            generalize nd - 1 - k = j at *
            generalize D.getD j 0 = p at *
            go_wp2
            go_roundw
            case rel => exact ⟨k + 1, by omega, by go_num, HST.out, HK2.out _, HGQ.out _⟩
            case measure => simp [intOf]; omega
          · have hkn : k = nd := by omega
            subst hkn
            rw [List.take_of_length_le (by simp; omega), Nat.sub_self, List.replicate_zero, List.append_nil] at ho1
            have hcv := conv_own ho1
            go_wp2
            go_ret
            refine ⟨_, rfl, .inr ⟨HXP.out, dig_rev D hD, ?_, ?_, by show dval (by8 D.reverse) = _; rw [dval_rev D hD, HX.out]⟩, by show (by8 D.reverse).toArray.size ≤ _; simp [by8]; omega, hgq⟩
            · show by8 D.reverse ≠ []
              intro e
              have := congrArg List.length e
              simp [by8] at this
              rw [this] at hDl
              simp at hDl
              omega
            · show (by8 D.reverse).getD 0 0 ≠ 48
              have hgt : D.getD (D.length - 1) 0 = D[D.length - 1]'(by omega) := by
                rw [List.getD_eq_getElem?_getD, List.getElem?_eq_getElem (by omega)]; rfl
              have hd := hD (D[D.length - 1]'(by omega)) (List.getElem_mem _)
              have hT := HT.out
              rw [← hDl, hgt] at hT
              have e : (by8 D.reverse).getD 0 0 = UInt8.ofNat (D[D.length - 1]'(by omega)) := by
                rw [List.getD_eq_getElem?_getD, List.getElem?_eq_getElem (by simp [by8]; omega)]
                simp [by8]
              rw [e]
              intro e2
              have := congrArg UInt8.toNat e2
              rw [by8_toNat hd.2] at this
              exact hT this
      · have hXne : X ≠ [] := by intro e; rw [e] at hX; simp at hX; omega
        have hvX : 1 ≤ val X := by
          have := nrm_pos hXn hXne
          have := Nat.pow_pos (n := X.length - 1) B32_pos
          omega
        have hnd2 : nd ≤ 11 * n := by
          rw [← hxl]
          refine nd_bound hxlim ?_
          rw [HV.out]
          have : 1 * 10 ^ nd ≤ val X * 10 ^ nd := Nat.mul_le_mul_right _ hvX
          omega
        have hpos : (0 : Int) < (nx : Int) := by omega
        have HRS : Hid (readSlice (.slice (some ⟨g, 0, none⟩) nx nx) wr = X) := readSlice_row (S := []) (by simpa using hrow) hX
        have hsX := (OW.of_row (B := 0) (L := []) (by simpa using hrow) (Nat.zero_le _) hX (Nat.le_refl _) (by omega) (by omega) hXl).sl
        clear hlast hrow
        go_wp2_with (first
          | (go_at_call 77; refine (quo_raw _ nx nx 10 X _ hsX (by omega) (by omega)).mono ?_; rintro e w2 ⟨g2, l2, r2, rfl, hr2, hn2, hl2, hrd2, hv2, hB2, hk2, hg2⟩; have HV2 := hid hv2; clear hv2)
          | (at_builtin; refine wpList_append_lies _ rfl (.tmp 22) (.tmp 26) 61 rfl w1.heap.size 5 i0 (.int .u8 0) 1 1 Try.underlying61 hi hz0 hz1 hz2 rfl (by decide) (.slice ad nd cd) nd (bl D) rfl ((hown.kept hg2 (Classical.em _)).alloc _) ⟨w2.heap.size, 0, none⟩ 1 1 [.int .u8 (48 + (r2 : Int))] rfl rfl (cell_one_new _ _ _) (by intro u hu; simp at hu; subst hu; rfl) (by omega) (by unfold maxLen; omega) (by omega) (by have := hg2.size; simp; omega) (w2.heap.size + 1) (by simp) ?_; intro g5 cap5 w5 hown5 hgrow5 hat5 hlt5))
        have hgr2 : w.grownBy w2 none := gb_then hg hg2 (by simp)
        have hg2l := hr2.lt
        have hgr5 : w.grownBy w5 none := gb_then (gb_alloc hgr2 _) hgrow5 (fun i e => by have := (hown.lt i e).1; have := hg1.size; omega)
        have hrow5 : Row w5 g2 l2 := (hr2.alloc _).kept hgrow5 (fun e => by have := (hown.lt g2 e).2; omega)
        have hsz5 : w1.heap.size ≤ w5.heap.size := by have := hgrow5.size; have := hg2.size; simp at *; omega
        have hDs : Dgs (D ++ [48 + r2]) := dgs_snoc hD (by omega)
        go_roundw
        case rel =>
          refine ⟨g2, l2.length, l2, _, nd + 1, cap5, D ++ [48 + r2], rfl, hrow5, rfl, by omega, hn2, hl2, rfl, ?_, hDs, by simp; omega, ?_, by omega, ?_, hgr5, hsz5⟩
          · have e : bl (D ++ [48 + r2]) = bl D ++ [.int .u8 (48 + (r2 : Int))] := by simp [bl]
            rw [e]
            exact hown5
          · rw [dvl_snoc, hDl, Nat.add_sub_cancel_left]
            exact dvl_top HV.out HV2.out
          · intro e
            refine ⟨by omega, ?_⟩
            have hv2 := HV2.out
            rw [e] at hv2
            simp [val] at hv2
            rw [Nat.add_sub_cancel]
            have : (D ++ [48 + r2]).getD nd 0 = 48 + r2 := by
              rw [List.getD_eq_getElem?_getD, List.getElem?_append_right (by omega), hDl, Nat.sub_self]; rfl
            rw [this]
            omega
        case measure =>
          rw [HRS.out, readSlice_row (S := []) (by simpa using hrow5) rfl]
          have := HV2.out
          omega

theorem isText_neg {z : Int} {v : Nat} {t : List UInt8} (h : IsNat v t) (hz : z = -(v : Int)) (hn : z < 0) : IsText z ([126] ++ t) := by
  rcases h with ⟨h1, _⟩ | ⟨h1, h2, h3, h4, h5⟩
  · omega
  · exact .inr ⟨by omega, t, by rw [if_pos hn], h2, h3, h4, by omega⟩
theorem isText_pos {z : Int} {v : Nat} {t : List UInt8} (h : IsNat v t) (hz : z = (v : Int)) : IsText z t := by
  rcases h with ⟨h1, h2⟩ | ⟨h1, h2, h3, h4, h5⟩
  · exact .inl ⟨by omega, h2⟩
  · exact .inr ⟨by omega, t, by rw [if_neg (by omega)]; rfl, h2, h3, h4, by omega⟩

set_option maxHeartbeats 1600000 in
theorem rtext_raw (s : Bool) (a : Option Addr) (n c : Nat) (x : List Nat) (w : World) (hx : SL w a n c x) (hb : n ≤ 1000000000000) :
    Calls Try.prog 38 #[.agg #[.bool s, .slice a n c]] w (TextPost w (iv s x) (11 * n + 21)) := by
  by_cases hs : sgn (iv s x) < 0
  · have HS : Hid (iv s x = -(val x : Int) ∧ iv s x < 0) := by
      have : iv s x < 0 := by unfold sgn at hs; split at hs <;> (try split at hs) <;> omega
      refine ⟨?_, this⟩
      unfold iv at *
      split at this <;> simp_all <;> omega
    go_enter Try.func38, Try.ntmps38
    go_wp2_with (first
      | (go_at_call 65; refine (natText_raw a n c x _ (by exact hx.grown (by repeat (first | exact gb_refl _ _ | apply gb_drew | apply gb_alloc | (refine gb_then ?_ (by assumption) (by simp))))) hb).mono ?_; rintro e w1 ⟨t, rfl, ht1, hk1, hg1⟩; obtain ⟨hc1, hf1, hz1⟩ := box_kept w.heap.size hg1 (by first | (simp; done) | (simp; omega) | omega))
      | (go_at_call 26; refine (rsign_raw s a n c x _ (by exact hx.grown (by repeat (first | exact gb_refl _ _ | apply gb_drew | apply gb_alloc | (refine gb_then ?_ (by assumption) (by simp)))))).mono ?_; rintro e w2 ⟨rfl, hg2⟩))
    go_ret
    refine ⟨_, rfl, ?_, ?_, (by repeat (first | exact gb_refl _ _ | apply gb_drew | apply gb_alloc | (refine gb_then ?_ (by assumption) (by simp))))⟩
    · have := isText_neg ht1 HS.out.1 HS.out.2
      simpa using this
    · have e1 : (ByteArray.mk #[126]).size = 1 := rfl
      rw [ByteArray.size_append, e1]; omega
  · have HS : Hid (iv s x = (val x : Int)) := by
      have : ¬ iv s x < 0 := by unfold sgn at hs; split at hs <;> (try split at hs) <;> omega
      show _ = _
      unfold iv at *
      split at this <;> simp_all
    go_enter Try.func38, Try.ntmps38
    go_wp2_with (first
      | (go_at_call 65; refine (natText_raw a n c x _ (by exact hx.grown (by repeat (first | exact gb_refl _ _ | apply gb_drew | apply gb_alloc | (refine gb_then ?_ (by assumption) (by simp))))) hb).mono ?_; rintro e w1 ⟨t, rfl, ht1, hk1, hg1⟩; obtain ⟨hc1, hf1, hz1⟩ := box_kept w.heap.size hg1 (by first | (simp; done) | (simp; omega) | omega))
      | (go_at_call 26; refine (rsign_raw s a n c x _ (by exact hx.grown (by repeat (first | exact gb_refl _ _ | apply gb_drew | apply gb_alloc | (refine gb_then ?_ (by assumption) (by simp)))))).mono ?_; rintro e w2 ⟨rfl, hg2⟩))
    go_ret
    exact ⟨_, rfl, isText_pos ht1 HS.out, by omega, (by repeat (first | exact gb_refl _ _ | apply gb_drew | apply gb_alloc | (refine gb_then ?_ (by assumption) (by simp))))⟩
end Go.Proofs.Ytonfnkchpicoiaa
