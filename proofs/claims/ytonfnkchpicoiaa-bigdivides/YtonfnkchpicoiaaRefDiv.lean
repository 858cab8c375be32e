/-
  The reference: natDiv, bit by bit.
-/
import Derived.Test.YtonfnkchpicoiaaRefInts
import Derived.Test.YtonfnkchpicoiaaShift
namespace Go.Proofs.Ytonfnkchpicoiaa
set_option linter.unusedSimpArgs false
set_option linter.unusedVariables false
open Go.RowKit
attribute [local go_sem ↓] Go.wp_at_zero Go.wp_at_succ

/-- one bit more -/
theorem bit_step {X xj V q qb r r' P : Nat} {b : Nat} (hP : P = 2 ^ (31 - b)) (hb : b ≤ 31) (h : X * P + xj / 2 ^ (b + 1) = (q * P + qb) * V + r) (hr : r' = r * 2 + xj / 2 ^ b % 2) : X * (P * 2) + xj / 2 ^ b = (q * (P * 2) + qb * 2) * V + r' := by
  have e : xj / 2 ^ b = 2 * (xj / 2 ^ (b + 1)) + xj / 2 ^ b % 2 := by
    rw [Nat.pow_succ, ← Nat.div_div_eq_div_mul]
    omega
  generalize xj / 2 ^ (b + 1) = t at *
  generalize xj / 2 ^ b % 2 = d at *
  rw [e, hr]
  have : 2 * (X * P + t) = 2 * ((q * P + qb) * V + r) := by rw [h]
  grind

def NatDivPost (w : World) (x y : List Nat) (e : Ending) (w' : World) : Prop :=
  ∃ gq Q gr R, e = .returned (.tuple #[.slice (some ⟨gq, 0, none⟩) Q.length Q.length, .slice (some ⟨gr, 0, none⟩) R.length R.length]) ∧ Row w' gq Q ∧ Row w' gr R ∧ Nrm Q ∧ Nrm R ∧ Lims Q ∧ Lims R ∧
    val x = val Q * val y + val R ∧ val R < val y ∧ Q.length ≤ x.length ∧ R.length ≤ y.length ∧ w.heap.size ≤ gq ∧ w.heap.size ≤ gr ∧ w.grownBy w' none

theorem q2_eq (qb b2 : Nat) : qb * 2 ^ (b2 + 1) = qb * 2 * 2 ^ b2 := by rw [Nat.pow_succ]; grind
theorem rep_set3 (Q : List Nat) (j z d : Nat) : (List.replicate j 0 ++ z :: Q).set j d = List.replicate j 0 ++ d :: Q := by
  rw [List.set_append_right _ _ (by simp)]
  simp
theorem bit_val {qb b2 : Nat} (hb : b2 ≤ 31) (h : qb + 1 ≤ 2 ^ (31 - b2)) : (qb * 2 + 1) * 2 ^ b2 < 4294967296 ∧ (((qb : Int) * 2 ^ (b2 + 1) + 2 ^ b2) % 4294967296 = (((qb * 2 + 1) * 2 ^ b2 : Nat) : Int)) := by
  have h1 : (qb + 1) * (2 ^ b2 * 2) ≤ 2 ^ (31 - b2) * (2 ^ b2 * 2) := Nat.mul_le_mul_right _ h
  have h2 : 2 ^ (31 - b2) * (2 ^ b2 * 2) = 4294967296 := by
    rw [← Nat.pow_succ, ← Nat.pow_add, show 31 - b2 + (b2 + 1) = 32 by omega]
  have h3 := Nat.two_pow_pos b2
  have e : (qb : Int) * 2 ^ (b2 + 1) + 2 ^ b2 = (((qb * 2 + 1) * 2 ^ b2 : Nat) : Int) := by
    have : (qb * 2 + 1) * 2 ^ b2 = qb * 2 ^ (b2 + 1) + 2 ^ b2 := by rw [Nat.pow_succ]; grind
    rw [this]; simp
  rw [e]
  have h4 : (qb * 2 + 1) * 2 ^ b2 < 4294967296 := by
    rw [← h2]
    generalize 2 ^ b2 = P at *
    have : (qb + 1) * (P * 2) = (qb * 2 + 1) * P + P := by grind
    omega
  refine ⟨h4, ?_⟩
  generalize (qb * 2 + 1) * 2 ^ b2 = z at *
  omega
theorem sub_once {A r V r' : Nat} (hr : r' = r - V) (hge : V ≤ r) : A * V + r = (A + 1) * V + r' := by
  rw [Nat.add_mul, Nat.one_mul]; omega
theorem limb_done {X xj q qb V r L : Nat} (h : X * 2 ^ (32 - 0) + xj / 2 ^ 0 = (q * 2 ^ (32 - 0) + qb) * V + r) (hL : L = xj + B32 * X) : L = (qb * 2 ^ 0 + B32 * q) * V + r := by
  have e : (2 : Nat) ^ (32 - 0) = B32 := rfl
  rw [e, Nat.pow_zero, Nat.div_one] at h
  rw [hL, Nat.pow_zero, Nat.mul_one]
  have : X * B32 + xj = xj + B32 * X := by rw [Nat.mul_comm]; omega
  have e3 : q * B32 + qb = qb + B32 * q := by rw [Nat.mul_comm q]; omega
  rw [← this, h, e3]

set_option maxHeartbeats 6400000 in
set_option maxRecDepth 100000 in
theorem natDiv_raw (a b : Option Addr) (n c m d : Nat) (x y : List Nat) (w : World) (hx : SL w a n c x) (hy : SL w b m d y) (hy0 : 0 < val y) (hn : n + 2 ≤ 35184372088832) (hm : m + 2 ≤ 35184372088832) :
    Calls Try.prog 58 #[.slice a n c, .slice b m d] w (NatDivPost w x y) := by
  have hxl := hx.len
  have hyl := hy.len
  have hty := tr_le y
  have hmk := fun u => make_row n (by omega) u
  have hvt : val (tr y) = val y := val_tr y
  have HTL := hid (lims_tr hy.lim)
  go_enter Try.func58, Try.ntmps58
  go_wp2_with (go_at_call 47; refine (rtrim_raw b m d y _ hy).mono ?_; rintro e w1 ⟨gy, rfl, hr1, hB1, hg1⟩)
  have hQ0 := Row.made w1 n
  have hgyl := hr1.lt
  have hG1 : w.grownBy (w1.alloc (.cells (madeCells #[.int .u32 0] n) 47)) none := gb_alloc hg1 _
  have hry1 := hr1.alloc (.cells (madeCells #[.int .u32 0] n) 47)
  have HVT := hid hvt
  have HY0 := hid hy0
  have hz1 := hg1.size
  clear hvt hy0
  go_loopw [8, 9] (fun r i wr => ∃ (k : Nat) (ar : Option Addr) (R Q : List Nat), k ≤ n ∧ i = .int .i64 ((k : Int) - 1) ∧ r = .slice ar R.length R.length ∧ SL wr ar R.length R.length R ∧ Nrm R ∧ Row wr w1.heap.size (List.replicate k 0 ++ Q) ∧ Q.length = n - k ∧ Lims Q ∧ Row wr gy (tr y) ∧ val (x.drop k) = val Q * val y + val R ∧ val R < val y ∧ w.grownBy wr none) (fun _ i _ => (intOf i + 1).toNat)
  case atStart => exact ⟨n, none, [], [], Nat.le_refl _, by go_num, rfl, SL.nil' _, .inl rfl, by simpa using hQ0, by simp, (by intro z hz; cases hz), hry1, by rw [List.drop_of_length_le (by omega)]; simp [val], HY0.out, hG1⟩
  case round =>
    obtain ⟨k, ar, R, Q, hk, rfl, rfl, hsR, hRn, hrQ, hQn, hQl, hry, hv, hlt, hg⟩ := hrel
    have HV := hid hv
    have HLT := hid hlt
    have hRlen : R.length ≤ m := by
      rw [← hyl]
      refine nrm_len hRn (Nat.lt_trans hlt ?_)
      exact val_lt y hy.lim
    clear hv hlt hQ0 hG1 hry1
    by_cases h0 : k = 0
    · subst h0
      rw [List.replicate_zero, List.nil_append] at hrQ
      have hQn0 : Q.length = n := by omega
      have hsQ := (OW.of_row (B := 0) (L := []) (by simpa using hrQ) (Nat.zero_le _) hQn0 (Nat.le_refl _) (by omega) (by omega) hQl).sl
      go_wp2_with (first
        | (go_at_call_of 47 (Value.slice ar R.length R.length); have hgd := hg5; clear hgd; refine (rtrim_raw ar _ _ R _ (by exact hsR.grown hg5)).mono ?_; rintro e w6 ⟨g6, rfl, hr6, hB6, hg6⟩)
        | (go_at_call 47; refine (rtrim_raw _ n n Q _ hsQ).mono ?_; rintro e w5 ⟨g5, rfl, hr5, hB5, hg5⟩))
      go_ret2
      have hv := HV.out
      rw [List.drop_zero] at hv
      have ht1 := tr_le Q
      have ht2 := tr_le R
      have hz2 := hg.size
      have hz5 := hg5.size
      exact ⟨g5, tr Q, g6, tr R, rfl, hr5.kept hg6 (by simp), hr6, nrm_tr _, nrm_tr _, lims_tr hQl, lims_tr hsR.lim, by rw [val_tr, val_tr, hv], by rw [val_tr]; exact HLT.out, by omega, by omega, by omega, by omega, gb_then (gb_then hg hg5 (by simp)) hg6 (by simp)⟩
    · obtain ⟨j, rfl⟩ : ∃ j, k = j + 1 := ⟨k - 1, by omega⟩
      have em : ((j + 1 : Nat) : Int) - 1 = (j : Int) := by omega
      rw [em]
      have hxj := lims_getD hx.lim j
      obtain ⟨bx, ox, hax, hcx⟩ := hx.at'
      obtain ⟨rfl, hbx⟩ := hax (by omega)
      have hcj := hcx j (by omega)
      have HDV := hid (drop_val2 x j)
      clear hax hcx
      generalize x.getD j 0 = xj at *
      obtain ⟨wo, hwo⟩ : ∃ wo, wo = wr := ⟨_, rfl⟩
      subst hwo
      go_wp2
      go_loopw [8, 10] (fun r i wq => ∃ (t qb : Nat) (ar : Option Addr) (R : List Nat), t ≤ 32 ∧ i = .int .i64 ((t : Int) - 1) ∧ r = .slice ar R.length R.length ∧ SL wq ar R.length R.length R ∧ Nrm R ∧ Row wq w1.heap.size (List.replicate j 0 ++ (qb * 2 ^ t) :: Q) ∧ qb < 2 ^ (32 - t) ∧ Row wq gy (tr y) ∧ val (x.drop (j + 1)) * 2 ^ (32 - t) + xj / 2 ^ t = (val Q * 2 ^ (32 - t) + qb) * val y + val R ∧ val R < val y ∧ w.grownBy wq none) (fun _ i _ => (intOf i + 1).toNat)
      case atStart =>
        refine ⟨32, 0, ar, R, Nat.le_refl _, by go_num, rfl, hsR, hRn, ?_, by simp, hry, ?_, HLT.out, hg⟩
        · rw [List.replicate_succ', List.append_assoc] at hrQ
          simpa using hrQ
        · have : xj / 2 ^ 32 = 0 := Nat.div_eq_of_lt hxj
          rw [this, HV.out]; simp
      case round =>
        obtain ⟨t, qb, ar2, R2, ht, rfl, rfl, hsR2, hRn2, hrQ2, hqb, hry2, hv2, hlt2, hg2⟩ := hrel
        have HV2 := hid hv2
        have HLT2 := hid hlt2
        have HQB := hid hqb
        have hRlen2 : R2.length ≤ m := by
          rw [← hyl]
          refine nrm_len hRn2 (Nat.lt_trans hlt2 ?_)
          exact val_lt y hy.lim
        clear hv2 hlt2 hqb
        by_cases ht0 : t = 0
        · subst ht0
          have HLD := hid (limb_done HV2.out HDV.out)
          have hqb32 := HQB.out
          go_wp2
          go_roundw
          case rel =>
            refine ⟨j, ar2, R2, (qb * 2 ^ 0) :: Q, by omega, by go_num, rfl, hsR2, hRn2, hrQ2, by simp; omega, ?_, hry2, HLD.out, HLT2.out, hg2⟩
            intro z hz
            rcases List.mem_cons.1 hz with rfl | hz
            · simpa using hqb32
            · exact hQl z hz
          case measure => simp [intOf]
        · obtain ⟨b2, rfl⟩ : ∃ b2, t = b2 + 1 := ⟨t - 1, by omega⟩
          have em2 : ((b2 + 1 : Nat) : Int) - 1 = (b2 : Int) := by omega
          rw [em2]
          have hcj2 := gb_cell hg2 hcj (by simp)
          have hfs : b2 ≤ 31 := by omega
          have hbit : xj / 2 ^ b2 % 2 < 2 := Nat.mod_lt _ (by omega)
          obtain ⟨bt, hbt⟩ : ∃ bt, xj / 2 ^ b2 % 2 = bt := ⟨_, rfl⟩
          rw [hbt] at hbit
          have hbv : ((xj : Int) / 2 ^ b2).tmod 2 = (bt : Int) := by
            have e : (xj : Int) / 2 ^ b2 = ((xj / 2 ^ b2 : Nat) : Int) := by simp
            rw [e, ← hbt]
            exact Int.ofNat_tmod _ 2
          have HBT := hid hbt
          clear hbt
          have HST : Hid (∀ r', r' = val R2 * 2 + bt → val (x.drop (j + 1)) * 2 ^ (32 - b2) + xj / 2 ^ b2 = (val Q * 2 ^ (32 - b2) + qb * 2) * val y + r') := fun r' hr => by
            have e1 : 32 - (b2 + 1) = 31 - b2 := by omega
            have e2 : 2 ^ (32 - b2) = 2 ^ (31 - b2) * 2 := by rw [← Nat.pow_succ]; congr 1; omega
            have h := HV2.out
            rw [e1] at h
            rw [e2]
            exact bit_step rfl hfs h (by rw [hr, HBT.out])
          have HQ2 : Hid (qb * 2 ^ (b2 + 1) = qb * 2 * 2 ^ b2) := q2_eq qb b2
          have HQ3 : Hid (qb + 1 ≤ 2 ^ (31 - b2)) := by
            have := HQB.out
            rw [show 32 - (b2 + 1) = 31 - b2 by omega] at this
            exact this
          have hsy : SL wr (some ⟨gy, 0, none⟩) (tr y).length (tr y).length (tr y) := (OW.of_row (B := 0) (L := []) (by simpa using hry2) (Nat.zero_le _) rfl (Nat.le_refl _) (by omega) (by omega) HTL.out).sl
          go_wp2_with fail
          refine (times_raw ar2 _ _ 2 bt R2 _ hsR2 (by omega) (by omega) (by omega)).mono ?_
          rintro e w3 ⟨g3, l3, rfl, hr3, hn3, hlm3, hv3, hB3, hk3, hg3⟩
          have HV3 := hid hv3
          clear hv3
          have s3 := (RNat.ow hr3 hlm3 hB3 (by omega)).sl
          go_wp2_with fail
          refine (natCmp_raw _ _ _ _ _ _ l3 (tr y) _ s3 (hsy.grown hg3) (by omega) (by omega)).mono ?_
          rintro e w4 ⟨rfl, hww⟩
          subst w4
          have hrQ3 := hrQ2.kept hg3 (by simp)
          have hry3 := hry2.kept hg3 (by simp)
          have hG3 : w.grownBy w3 none := gb_then hg2 hg3 (by simp)
          by_cases hge : val y ≤ val l3
          · have hsg : (0 : Int) ≤ sgn ((val l3 : Int) - val (tr y)) := by
              rw [HVT.out]; unfold sgn; rw [if_neg (by omega)]; split <;> omega
            have hsg' : (sgn ((val l3 : Int) - val (tr y)) ≥ 0) := hsg
            have HLE := hid (show val (tr y) ≤ val l3 by rw [HVT.out]; exact hge)
            go_wp2_with (go_at_call 55; refine (natSub_raw _ _ _ _ _ _ l3 (tr y) _ s3 (hsy.grown hg3) (by omega) HLE.out (take_val hlm3 rfl HLE.out)).mono ?_; rintro e w5 ⟨g5, l5, rfl, hr5, hn5, hlm5, hv5, hB5, hk5, hg5⟩; have HV5 := hid hv5; clear hv5)
            have hrQ5 := hrQ3.kept hg5 (by simp)
            have hry5 := hry3.kept hg5 (by simp)
            have hG5 : w.grownBy w5 none := gb_then hG3 hg5 (by simp)
            have hcQ := hrQ5.cell j (by simp)
            have hfQ := hrQ5.frozen j
            have hwQ5 := hrQ5.lt
            have eQ : (List.replicate j 0 ++ (qb * 2 ^ (b2 + 1)) :: Q).getD j 0 = qb * 2 ^ (b2 + 1) := by
              rw [List.getD_eq_getElem?_getD, List.getElem?_append_right (by simp)]; simp
            rw [eQ] at hcQ
            obtain ⟨hbv1, hbv2⟩ := bit_val hfs HQ3.out
            have HBV1 := hid hbv1
            have HBV2 := hid hbv2
            have hset := fun v => gb_set (gb_refl w5 (some w1.heap.size)) ⟨w1.heap.size, j, none⟩ v (.inl rfl)
            have HRQ : Hid (Row (w5.setCell ⟨w1.heap.size, j, none⟩ (.int .u32 (((qb : Int) * 2 ^ (b2 + 1) + 2 ^ b2) % 4294967296))) w1.heap.size (List.replicate j 0 ++ ((qb * 2 + 1) * 2 ^ b2) :: Q)) := by
              have := hrQ5.set j ((qb * 2 + 1) * 2 ^ b2) (by simp)
              rw [rep_set3] at this
              show Row _ _ _
              rw [hbv2]
              exact this
            have HRY : Hid (∀ v, Row (w5.setCell ⟨w1.heap.size, j, none⟩ v) gy (tr y)) := fun v => hry5.kept (hset v) (by simp; omega)
            have HR5 : Hid (∀ v, Row (w5.setCell ⟨w1.heap.size, j, none⟩ v) g5 l5) := fun v => hr5.kept (hset v) (by have := hg3.size; have := hrQ2.lt; simp; omega)
            have HG : Hid (∀ v, w.grownBy (w5.setCell ⟨w1.heap.size, j, none⟩ v) none) := fun v => gb_set hG5 _ _ (.inr hz1)
            have HLT5 : Hid (val l5 < val y) := by
              have h1 := HV5.out
              have h2 := HV3.out
              have h3 := HLT2.out
              rw [HVT.out] at h1
              show _ < _
              omega
            have HVN : Hid (val (x.drop (j + 1)) * 2 ^ (32 - b2) + xj / 2 ^ b2 = (val Q * 2 ^ (32 - b2) + (qb * 2 + 1)) * val y + val l5) := by
              have h1 := HST.out (val l3) HV3.out
              have h2 := HV5.out
              rw [HVT.out] at h2
              show _ = _
              rw [h1, ← Nat.add_assoc]
              exact sub_once h2 hge
            clear hbv1 hbv2 hset
            go_region
            go_wp2
            go_roundw
            case rel =>
              refine ⟨b2, qb * 2 + 1, _, l5, by omega, by go_num, rfl, ?_, hn5, HRQ.out, ?_, HRY.out _, HVN.out, HLT5.out, gb_drew (HG.out _)⟩
              · exact (OW.of_row (B := 0) (L := []) (by simpa using (HR5.out _).drew) (Nat.zero_le _) rfl (Nat.le_refl _) (by omega) (by omega) hlm5).sl
              · have := HQ3.out
                have e2 : 2 ^ (32 - b2) = 2 ^ (31 - b2) * 2 := by rw [← Nat.pow_succ]; congr 1; omega
                rw [e2]
                generalize 2 ^ (31 - b2) = z at *
                omega
            case measure => simp [intOf]
          · have hsg : ¬ (0 : Int) ≤ sgn ((val l3 : Int) - val (tr y)) := by
              rw [HVT.out]; unfold sgn; rw [if_pos (by omega)]; omega
            have hsg' : ¬ (sgn ((val l3 : Int) - val (tr y)) ≥ 0) := hsg
            have HNG := hid hge
            clear hge
            go_wp2
            go_roundw
            case rel =>
              refine ⟨b2, qb * 2, _, l3, by omega, by go_num, rfl, s3, hn3, ?_, ?_, hry3, HST.out _ HV3.out, by have := HNG.out; omega, hG3⟩
              · rw [← HQ2.out]; exact hrQ3
              · have := HQ3.out
                have e2 : 2 ^ (32 - b2) = 2 ^ (31 - b2) * 2 := by rw [← Nat.pow_succ]; congr 1; omega
                rw [e2]
                generalize 2 ^ (31 - b2) = z at *
                omega
            case measure => simp [intOf]
end Go.Proofs.Ytonfnkchpicoiaa
