/-
  integerAt, realAt, numberAt.
-/
import Derived.Test.YtcmhfeeocehlaaaGreatDoorInteger
import Derived.Test.YtcmhfeeocehlaaaGreatDoorFrac
namespace Go.Proofs.YtcmhfeeocehlaaaGreatDoor
set_option linter.unusedSimpArgs false
set_option linter.unusedVariables false
open Go.RowKit Go.PlainAid
attribute [local go_sem ↓] Go.wp_at_zero Go.wp_at_succ

theorem dcv_eq (l : List UInt8) : dcv l = dval l := rfl
/-- the number z stands in the text x -/
def DW (x : ByteArray) (z : Int) : Prop := ∀ w, Calls Tryz.prog 72 #[.string x] w (NPost w z)
theorem dw_of (x : ByteArray) (D : List UInt8) (hx : x.size ≤ 65536) (hD : D.all isDig = true) (hn : D ≠ []) (hl : x.data.toList = D ∨ x.data.toList = 126 :: D) : DW x (zof x.data.toList) := by
  intro w
  have hm : x.size ≤ maxLen := by unfold maxLen; omega
  rcases hl with hl | hl
  · obtain ⟨c, r, rfl⟩ : ∃ c r, D = c :: r := by
      cases D with
      | nil => exact absurd rfl hn
      | cons c r => exact ⟨c, r, rfl⟩
    have hc : isDig c = true := by simp only [List.all_cons, Bool.and_eq_true] at hD; exact hD.1
    have hne : ¬ c = 126 := fun e => by
      have := isDig_lt hc
      rw [e] at this
      have h126 : (126 : UInt8).toNat = 126 := rfl
      omega
    have := integer_raw x x false w hx hx (fun w => cut_no x w hm (by rw [hl]; simpa using hne)) (by rw [hl]; exact hD) (by rw [Lib.size_eq, hl]; simp)
    rw [if_neg (by simp)] at this
    have hz : zof x.data.toList = (dval x.data.toList : Int) := by
      rw [hl]
      unfold zof
      split
      · rename_i heq; cases heq; exact absurd rfl hne
      · rfl
    rw [hz]
    exact this
  · have hd : (x.extract 1 x.size).data.toList = D := by rw [ext_rest, hl]; rfl
    have hds := ext_size x 1
    have := integer_raw x (x.extract 1 x.size) true w hx (by omega) (fun w => cut_yes x w hm (by rw [hl]; rfl)) (by rw [hd]; exact hD) (by
      rw [Lib.size_eq, hd]
      cases D with
      | nil => exact absurd rfl hn
      | cons _ _ => simp)
    rw [if_pos rfl, hd] at this
    rw [hl]
    exact this

theorem set23 {w2 w3 : World} {g : Nat} {x y : Value} (h : (w2.setCell ⟨g, 2, none⟩ x).setCell ⟨g, 3, none⟩ y = w3) (h2 : (w2.cell? ⟨g, 2, none⟩).isSome = true) (h3 : (w2.cell? ⟨g, 3, none⟩).isSome = true) :
    w3.cell? ⟨g, 2, none⟩ = some x ∧ w3.cell? ⟨g, 3, none⟩ = some y ∧ (∀ b i, b ≠ g ∨ (i ≠ 2 ∧ i ≠ 3) → w3.cell? ⟨b, i, none⟩ = w2.cell? ⟨b, i, none⟩) ∧ (∀ b i, w3.frozen? ⟨b, i, none⟩ = w2.frozen? ⟨b, i, none⟩) ∧ w3.heap.size = w2.heap.size ∧ (∀ k, k ≠ g → w3.heap[k]? = w2.heap[k]?) := by
  subst h
  refine ⟨?_, ?_, fun b i hb => ?_, fun b i => ?_, by simp, fun k hk => ?_⟩
  · rw [cell_set_ne (by omega)]; exact set_same h2
  · exact set_same (by rw [cell_set_ne (by omega)]; exact h3)
  · rw [cell_set_ne (by omega), cell_set_ne (by omega)]
  · rw [World.frozen?_setCell, World.frozen?_setCell]
  · rw [Below.heap_setCell _ _ _ _ hk, Below.heap_setCell _ _ _ _ hk]

set_option maxHeartbeats 4000000 in
set_option maxRecDepth 100000 in
theorem integerAt_raw (s : ByteArray) (a e : Nat) (z : Int) (w : World) (hs : s.size ≤ 65536) (ha : a ≤ e) (he : e ≤ s.size) (hz : DW (s.extract a e) z) :
    Calls Tryz.prog 58 #[.string s, .int .i64 (a : Int), .int .i64 (e : Int)] w (WPost w (if 2000 < e - a then .bad 32 a else .ok ⟨4, s.extract a e, z, 0, 0, a⟩ e)) := by
  have HC := hid (fun w => limited_raw 4 s a e 2000 w hs ha he (by omega))
  by_cases hb : 2000 < e - a
  · rw [if_pos hb]
    have hl : limd 4 s a e 2000 = .bad 32 a := by unfold limd; rw [if_pos hb]
    rw [hl] at HC
    clear hl hb hz
    go_enter Tryz.func58, Tryz.ntmps58
    go_wp2_with (go_at_call 55; refine (HC.out _).mono ?_; rintro e w1 ⟨ht, k1, x1, ng1, sa1, sn1, sc1, b1, n1, p1, en1, c1, pp1, rfl, rfl, rfl, rfl, hsl, rfl, rfl, rfl, rfl, rfl, rfl⟩; cases hsl; simp only [tkV, msV]; obtain ⟨⟨k1, f1⟩, ⟨k2, f2⟩, s1, s2, hz⟩ := two_blocks ht; have HS1 := hid (fun i (hi : i < 7) => s1 i hi); have HS2 := hid (fun i (hi : i < 2) => s2 i hi); clear s1 s2; have k10 := k1 0; have k11 := k1 1; have k12 := k1 2; have k13 := k1 3; have k14 := k1 4; have k15 := k1 5; have k16 := k1 6; have k20 := k2 0; have k21 := k2 1; simp at k10 k11 k12 k13 k14 k15 k16 k20 k21; clear k1 k2; have HT := hid ht; clear ht; have hzA := Nat.lt_of_lt_of_le (Nat.lt_add_of_pos_right (by decide : 0 < 2)) hz; have hzB := Nat.lt_of_lt_of_le (Nat.add_lt_add_left (by decide : 1 < 2) _) hz)
    go_region
    all_goals go_wp2_with fail
    change bodyPost _ _ _ _ _ (((((put9 w1 w.heap.size (w.heap.size + 1) _ _ _ _ _ _ _ _ _)).alloc _).alloc _).drew); refine put9_all (fun W => bodyPost _ _ _ _ _ ((((W).alloc _).alloc _).drew)) (by omega) HS1.out HS2.out ?_; rintro W ⟨q0, q1, q2, q3, q4, q5, q6, r0, r1⟩ hoth hsz htn; have HTN := hid (htn w (Tn.thenNo (((Tn.refl No w).alloc _).alloc _) HT.out) (by omega) (by omega)); clear htn; have hgA : w.heap.size < W.heap.size := (by omega); have hgB : w.heap.size + 1 < W.heap.size := (by omega); refine bodyPost_ret (v := .tuple #[noTk, .int .i64 0, msV 32 (a : Int)]) (by simp [results, Tryz.results58, go_sem, tkV, noTk, msV, q0, q1, q2, q3, q4, q5, q6, r0, r1, hgA, hgB]) rfl ?_
    exact ⟨((HTN.out.alloc _).alloc _).drew, _, _, _, _, _, _, _, _, _, _, _, _, rfl, rfl, rfl, rfl, rfl, rfl, rfl, rfl, rfl, rfl, rfl⟩
  · rw [if_neg hb]
    have hl : limd 4 s a e 2000 = stands 4 s a e := by unfold limd; rw [if_neg hb]
    rw [hl] at HC
    have HZ := hid hz
    clear hl hb hz
    go_enter Tryz.func58, Tryz.ntmps58
    go_wp2_with (first
      | (go_at_call 55; refine (HC.out _).mono ?_; rintro e w1 ⟨ht, k1, x1, ng1, sa1, sn1, sc1, b1, n1, p1, en1, c1, pp1, rfl, rfl, rfl, rfl, rfl, rfl, rfl, rfl, rfl, hN⟩; have HN1 := hid hN; clear hN; simp only [tkV, msV]; obtain ⟨⟨k1, f1⟩, ⟨k2, f2⟩, s1, s2, hz⟩ := two_blocks ht; have HS1 := hid (fun i (hi : i < 7) => s1 i hi); have HS2 := hid (fun i (hi : i < 2) => s2 i hi); clear s1 s2; have k10 := k1 0; have k11 := k1 1; have k12 := k1 2; have k13 := k1 3; have k14 := k1 4; have k15 := k1 5; have k16 := k1 6; have k20 := k2 0; have k21 := k2 1; simp at k10 k11 k12 k13 k14 k15 k16 k20 k21; clear k1 k2; have HT := hid ht; clear ht; have hzA := Nat.lt_of_lt_of_le (Nat.lt_add_of_pos_right (by decide : 0 < 2)) hz; have hzB := Nat.lt_of_lt_of_le (Nat.add_lt_add_left (by decide : 1 < 2) _) hz)
      | (go_at_call 72; refine (HZ.out _).mono ?_; rintro e w2 ⟨ht2, ng2, sa2, sn2, sc2, rfl, hN⟩; have HN2 := hid hN; clear hN; have ht3 := ((HT.out.alloc _).alloc _).thenNo ht2; obtain ⟨⟨k1b, f1b⟩, ⟨k2b, f2b⟩, s1b, s2b, hzb⟩ := two_blocks ht2; have HS1b := hid (fun i (hi : i < 7) => s1b i hi); have HS2b := hid (fun i (hi : i < 2) => s2b i hi); clear s1b s2b; have k10b := k1b 0; have k11b := k1b 1; have k12b := k1b 2; have k13b := k1b 3; have k14b := k1b 4; have k15b := k1b 5; have k16b := k1b 6; have k20b := k2b 0; have k21b := k2b 1; simp at k10b k11b k12b k13b k14b k15b k16b k20b k21b; clear k1b k2b; have HTb := hid ht2; clear ht2; have hzAb := Nat.lt_of_lt_of_le (Nat.lt_add_of_pos_right (by decide : 0 < 2)) hzb; have hzBb := Nat.lt_of_lt_of_le (Nat.add_lt_add_left (by decide : 1 < 2) _) hzb; obtain ⟨⟨k1c, f1c⟩, ⟨k2c, f2c⟩, s1c, s2c, hzc⟩ := two_blocks ht3; have HS1c := hid (fun i (hi : i < 7) => s1c i hi); have HS2c := hid (fun i (hi : i < 2) => s2c i hi); clear s1c s2c; have k10c := k1c 0; have k11c := k1c 1; have k12c := k1c 2; have k13c := k1c 3; have k14c := k1c 4; have k15c := k1c 5; have k16c := k1c 6; have k20c := k2c 0; have k21c := k2c 1; simp at k10c k11c k12c k13c k14c k15c k16c k20c k21c; clear k1c k2c; have HTc := hid ht3; clear ht3; have hzAc := Nat.lt_of_lt_of_le (Nat.lt_add_of_pos_right (by decide : 0 < 2)) hzc; have hzBc := Nat.lt_of_lt_of_le (Nat.add_lt_add_left (by decide : 1 < 2) _) hzc))
    obtain ⟨w3, h3⟩ : ∃ w3, (w2.setCell ⟨w1.heap.size, 2, none⟩ (.bool ng2)).setCell ⟨w1.heap.size, 3, none⟩ (.slice sa2 sn2 sc2) = w3 := ⟨_, rfl⟩
    rw [h3]
    obtain ⟨g2, g3, go, gf, gz, gh⟩ := set23 h3 (by rw [k12b]; rfl) (by rw [k13b]; rfl)
    have hgh : ∀ k, k ≠ w1.heap.size → w3.heap[k]? = w2.heap[k]? := gh
    have m0 := (go w1.heap.size 0 (by omega)).trans k10b
    have m1 := (go w1.heap.size 1 (by omega)).trans k11b
    have m4 := (go w1.heap.size 4 (by omega)).trans k14b
    have m5 := (go w1.heap.size 5 (by omega)).trans k15b
    have m6 := (go w1.heap.size 6 (by omega)).trans k16b
    have m7 := (go (w1.heap.size + 1) 0 (by omega)).trans k20b
    have m8 := (go (w1.heap.size + 1) 1 (by omega)).trans k21b
    have e0 := (go w.heap.size 0 (by omega)).trans k10c
    have e1 := (go w.heap.size 1 (by omega)).trans k11c
    have e2 := (go w.heap.size 2 (by omega)).trans k12c
    have e3 := (go w.heap.size 3 (by omega)).trans k13c
    have e4 := (go w.heap.size 4 (by omega)).trans k14c
    have e5 := (go w.heap.size 5 (by omega)).trans k15c
    have e6 := (go w.heap.size 6 (by omega)).trans k16c
    have e7 := (go (w.heap.size + 1) 0 (by omega)).trans k20c
    have e8 := (go (w.heap.size + 1) 1 (by omega)).trans k21c
    have f3 : ∀ i, w3.frozen? ⟨w.heap.size, i, none⟩ = false := fun i => (gf _ _).trans (f1c i)
    have f4 : ∀ i, w3.frozen? ⟨w.heap.size + 1, i, none⟩ = false := fun i => (gf _ _).trans (f2c i)
    have HTW : Hid (Tn No w w3) := hid (by rw [← h3]; exact ((Tn.thenNo (((Tn.refl No w).alloc _).alloc _) HTc.out).set _ _ (by intro h; simp at h; omega)).set _ _ (by intro h; simp at h; omega))
    have HSA : Hid (∀ i, i < 7 → (w3.cell? ⟨w.heap.size, i, none⟩).isSome = true) := hid (fun i hi => by rw [go w.heap.size i (by omega)]; exact HS1c.out i hi)
    have HSB : Hid (∀ i, i < 2 → (w3.cell? ⟨w.heap.size + 1, i, none⟩).isSome = true) := hid (fun i hi => by rw [go (w.heap.size + 1) i (by omega)]; exact HS2c.out i hi)
    have HNW : Hid (NumAt w3 (w.heap.size + 2) ng2 (.slice sa2 sn2 sc2) z) := hid (by
      refine (HN2.out.blocks (by omega) (fun b hb _ => gh b ?_)).mono (by simp; omega)
      have hb' : w1.heap.size + 1 + 1 ≤ b := by simpa using hb
      omega)
    clear k10 k11 k12 k13 k14 k15 k16 k20 k21 k10b k11b k12b k13b k14b k15b k16b k20b k21b k10c k11c k12c k13c k14c k15c k16c k20c k21c f1 f2 f1b f2b f1c f2c HS1 HS2 HS1b HS2b HS1c HS2c HT HTb HTc HN1 HN2 go gf gh
    have hzW : w.heap.size + 2 ≤ w3.heap.size := by omega
    clear h3
    go_region
    all_goals go_wp2_with fail
    change bodyPost _ _ _ _ _ (((put9 w3 w.heap.size (w.heap.size + 1) _ _ _ _ _ _ _ _ _)).drew); refine put9_all (fun W => bodyPost _ _ _ _ _ ((W).drew)) (by omega) HSA.out HSB.out ?_; rintro W ⟨q0, q1, q2, q3, q4, q5, q6, r0, r1⟩ hoth hsz htn; have HTN := hid (htn w HTW.out (by omega) (by omega)); clear htn; have hgA : w.heap.size < W.heap.size := (by omega); have hgB : w.heap.size + 1 < W.heap.size := (by omega); refine bodyPost_ret (v := .tuple #[tkV 4 (s.extract a e) ng2 (.slice sa2 sn2 sc2) 0 0 (a : Int), .int .i64 (e : Int), msV 0 0]) (by simp [results, Tryz.results58, go_sem, tkV, noTk, msV, q0, q1, q2, q3, q4, q5, q6, r0, r1, hgA, hgB]) rfl ?_
    exact ⟨HTN.out.drew, _, _, _, _, _, _, _, _, _, _, _, _, rfl, rfl, rfl, rfl, rfl, rfl, rfl, rfl, rfl, (HNW.out.blocks (w' := W.drew) (by show w3.heap.size ≤ W.heap.size; omega) (fun b hb _ => hoth b (by omega) (by omega))).mono (by omega)⟩
/-- the bits b of the real that the text x says -/
def RBW (x : ByteArray) (b : Int) : Prop := ∀ w, Calls Tryz.prog 73 #[.string x] w fun e w' => e = .returned (.int .u64 b) ∧ Tn No w w'
theorem set4 {w2 w3 : World} {g : Nat} {x : Value} (h : w2.setCell ⟨g, 4, none⟩ x = w3) (h2 : (w2.cell? ⟨g, 4, none⟩).isSome = true) :
    w3.cell? ⟨g, 4, none⟩ = some x ∧ (∀ b i, b ≠ g ∨ i ≠ 4 → w3.cell? ⟨b, i, none⟩ = w2.cell? ⟨b, i, none⟩) ∧ (∀ b i, w3.frozen? ⟨b, i, none⟩ = w2.frozen? ⟨b, i, none⟩) ∧ w3.heap.size = w2.heap.size ∧ (∀ k, k ≠ g → w3.heap[k]? = w2.heap[k]?) := by
  subst h
  refine ⟨set_same h2, fun b i hb => cell_set_ne (by omega), fun b i => World.frozen?_setCell _ _ _ _, by simp, fun k hk => Below.heap_setCell _ _ _ _ hk⟩
set_option maxHeartbeats 4000000 in
set_option maxRecDepth 100000 in
theorem realAt_raw (s : ByteArray) (a e : Nat) (b : Int) (w : World) (hs : s.size ≤ 65536) (ha : a ≤ e) (he : e ≤ s.size) (hz : ¬ 100 < e - a → RBW (s.extract a e) b) :
    Calls Tryz.prog 59 #[.string s, .int .i64 (a : Int), .int .i64 (e : Int)] w (WPost w (if 100 < e - a then .bad 32 a else .ok ⟨5, s.extract a e, 0, b, 0, a⟩ e)) := by
  have HC := hid (fun w => limited_raw 5 s a e 100 w hs ha he (by omega))
  by_cases hb : 100 < e - a
  · rw [if_pos hb]
    have hl : limd 5 s a e 100 = .bad 32 a := by unfold limd; rw [if_pos hb]
    rw [hl] at HC
    clear hl hb hz
    go_enter Tryz.func59, Tryz.ntmps59
    go_wp2_with (go_at_call 55; refine (HC.out _).mono ?_; rintro e w1 ⟨ht, k1, x1, ng1, sa1, sn1, sc1, b1, n1, p1, en1, c1, pp1, rfl, rfl, rfl, rfl, hsl, rfl, rfl, rfl, rfl, rfl, rfl⟩; cases hsl; simp only [tkV, msV]; obtain ⟨⟨k1, f1⟩, ⟨k2, f2⟩, s1, s2, hz⟩ := two_blocks ht; have HS1 := hid (fun i (hi : i < 7) => s1 i hi); have HS2 := hid (fun i (hi : i < 2) => s2 i hi); clear s1 s2; have k10 := k1 0; have k11 := k1 1; have k12 := k1 2; have k13 := k1 3; have k14 := k1 4; have k15 := k1 5; have k16 := k1 6; have k20 := k2 0; have k21 := k2 1; simp at k10 k11 k12 k13 k14 k15 k16 k20 k21; clear k1 k2; have HT := hid ht; clear ht; have hzA := Nat.lt_of_lt_of_le (Nat.lt_add_of_pos_right (by decide : 0 < 2)) hz; have hzB := Nat.lt_of_lt_of_le (Nat.add_lt_add_left (by decide : 1 < 2) _) hz)
    go_region
    all_goals go_wp2_with fail
    change bodyPost _ _ _ _ _ (((((put9 w1 w.heap.size (w.heap.size + 1) _ _ _ _ _ _ _ _ _)).alloc _).alloc _).drew); refine put9_all (fun W => bodyPost _ _ _ _ _ ((((W).alloc _).alloc _).drew)) (by omega) HS1.out HS2.out ?_; rintro W ⟨q0, q1, q2, q3, q4, q5, q6, r0, r1⟩ hoth hsz htn; have HTN := hid (htn w (Tn.thenNo (((Tn.refl No w).alloc _).alloc _) HT.out) (by omega) (by omega)); clear htn; have hgA : w.heap.size < W.heap.size := (by omega); have hgB : w.heap.size + 1 < W.heap.size := (by omega); refine bodyPost_ret (v := .tuple #[noTk, .int .i64 0, msV 32 (a : Int)]) (by simp [results, Tryz.results59, go_sem, tkV, noTk, msV, q0, q1, q2, q3, q4, q5, q6, r0, r1, hgA, hgB]) rfl ?_
    exact ⟨((HTN.out.alloc _).alloc _).drew, _, _, _, _, _, _, _, _, _, _, _, _, rfl, rfl, rfl, rfl, rfl, rfl, rfl, rfl, rfl, rfl, rfl⟩
  · rw [if_neg hb]
    have hl : limd 5 s a e 100 = stands 5 s a e := by unfold limd; rw [if_neg hb]
    rw [hl] at HC
    have HZ := hid (hz hb)
    clear hl hb hz
    go_enter Tryz.func59, Tryz.ntmps59
    go_wp2_with (first
      | (go_at_call 55; refine (HC.out _).mono ?_; rintro e w1 ⟨ht, k1, x1, ng1, sa1, sn1, sc1, b1, n1, p1, en1, c1, pp1, rfl, rfl, rfl, rfl, rfl, rfl, rfl, rfl, rfl, hN⟩; have HN1 := hid hN; clear hN; simp only [tkV, msV]; obtain ⟨⟨k1, f1⟩, ⟨k2, f2⟩, s1, s2, hz⟩ := two_blocks ht; have HS1 := hid (fun i (hi : i < 7) => s1 i hi); have HS2 := hid (fun i (hi : i < 2) => s2 i hi); clear s1 s2; have k10 := k1 0; have k11 := k1 1; have k12 := k1 2; have k13 := k1 3; have k14 := k1 4; have k15 := k1 5; have k16 := k1 6; have k20 := k2 0; have k21 := k2 1; simp at k10 k11 k12 k13 k14 k15 k16 k20 k21; clear k1 k2; have HT := hid ht; clear ht; have hzA := Nat.lt_of_lt_of_le (Nat.lt_add_of_pos_right (by decide : 0 < 2)) hz; have hzB := Nat.lt_of_lt_of_le (Nat.add_lt_add_left (by decide : 1 < 2) _) hz)
      | (go_at_call 73; refine (HZ.out _).mono ?_; rintro e w2 ⟨rfl, ht2⟩; have HT2 := hid ht2; have ht3 := ((HT.out.alloc _).alloc _).thenNo ht2; obtain ⟨⟨k1b, f1b⟩, ⟨k2b, f2b⟩, s1b, s2b, hzb⟩ := two_blocks ht2; have HS1b := hid (fun i (hi : i < 7) => s1b i hi); have HS2b := hid (fun i (hi : i < 2) => s2b i hi); clear s1b s2b; have k10b := k1b 0; have k11b := k1b 1; have k12b := k1b 2; have k13b := k1b 3; have k14b := k1b 4; have k15b := k1b 5; have k16b := k1b 6; have k20b := k2b 0; have k21b := k2b 1; simp at k10b k11b k12b k13b k14b k15b k16b k20b k21b; clear k1b k2b; have HTb := hid ht2; clear ht2; have hzAb := Nat.lt_of_lt_of_le (Nat.lt_add_of_pos_right (by decide : 0 < 2)) hzb; have hzBb := Nat.lt_of_lt_of_le (Nat.add_lt_add_left (by decide : 1 < 2) _) hzb; obtain ⟨⟨k1c, f1c⟩, ⟨k2c, f2c⟩, s1c, s2c, hzc⟩ := two_blocks ht3; have HS1c := hid (fun i (hi : i < 7) => s1c i hi); have HS2c := hid (fun i (hi : i < 2) => s2c i hi); clear s1c s2c; have k10c := k1c 0; have k11c := k1c 1; have k12c := k1c 2; have k13c := k1c 3; have k14c := k1c 4; have k15c := k1c 5; have k16c := k1c 6; have k20c := k2c 0; have k21c := k2c 1; simp at k10c k11c k12c k13c k14c k15c k16c k20c k21c; clear k1c k2c; have HTc := hid ht3; clear ht3; have hzAc := Nat.lt_of_lt_of_le (Nat.lt_add_of_pos_right (by decide : 0 < 2)) hzc; have hzBc := Nat.lt_of_lt_of_le (Nat.add_lt_add_left (by decide : 1 < 2) _) hzc))
    obtain ⟨w3, h3⟩ : ∃ w3, w2.setCell ⟨w1.heap.size, 4, none⟩ (.int .u64 b) = w3 := ⟨_, rfl⟩
    rw [h3]
    obtain ⟨g4, go, gf, gz, gh⟩ := set4 h3 (by rw [k14b]; rfl)
    have hgh : ∀ k, k ≠ w1.heap.size → w3.heap[k]? = w2.heap[k]? := gh
    have m0 := (go w1.heap.size 0 (by omega)).trans k10b
    have m1 := (go w1.heap.size 1 (by omega)).trans k11b
    have m2 := (go w1.heap.size 2 (by omega)).trans k12b
    have m3 := (go w1.heap.size 3 (by omega)).trans k13b
    have m5 := (go w1.heap.size 5 (by omega)).trans k15b
    have m6 := (go w1.heap.size 6 (by omega)).trans k16b
    have m7 := (go (w1.heap.size + 1) 0 (by omega)).trans k20b
    have m8 := (go (w1.heap.size + 1) 1 (by omega)).trans k21b
    have e0 := (go w.heap.size 0 (by omega)).trans k10c
    have e1 := (go w.heap.size 1 (by omega)).trans k11c
    have e2 := (go w.heap.size 2 (by omega)).trans k12c
    have e3 := (go w.heap.size 3 (by omega)).trans k13c
    have e4 := (go w.heap.size 4 (by omega)).trans k14c
    have e5 := (go w.heap.size 5 (by omega)).trans k15c
    have e6 := (go w.heap.size 6 (by omega)).trans k16c
    have e7 := (go (w.heap.size + 1) 0 (by omega)).trans k20c
    have e8 := (go (w.heap.size + 1) 1 (by omega)).trans k21c
    have f3 : ∀ i, w3.frozen? ⟨w.heap.size, i, none⟩ = false := fun i => (gf _ _).trans (f1c i)
    have f4 : ∀ i, w3.frozen? ⟨w.heap.size + 1, i, none⟩ = false := fun i => (gf _ _).trans (f2c i)
    have HTW : Hid (Tn No w w3) := hid (by rw [← h3]; exact (Tn.thenNo (((Tn.refl No w).alloc _).alloc _) HTc.out).set _ _ (by intro h; simp at h; omega))
    have HSA : Hid (∀ i, i < 7 → (w3.cell? ⟨w.heap.size, i, none⟩).isSome = true) := hid (fun i hi => by rw [go w.heap.size i (by omega)]; exact HS1c.out i hi)
    have HSB : Hid (∀ i, i < 2 → (w3.cell? ⟨w.heap.size + 1, i, none⟩).isSome = true) := hid (fun i hi => by rw [go (w.heap.size + 1) i (by omega)]; exact HS2c.out i hi)
    have HNW : Hid (NumAt w3 (w.heap.size + 2) ng1 (.slice sa1 sn1 sc1) 0) := hid (by
      have hz1 := HT2.out.size
      simp at hz1
      refine ((HN1.out.blocks (w' := w3) (by omega) (fun b hb hb2 => ?_))).mono (by simp)
      rw [gh b (by omega), HT2.out.block b (by simp; omega) (fun e => e), Below.heap_alloc _ _ _ (by simp; omega), Below.heap_alloc _ _ _ hb2])
    clear k10 k11 k12 k13 k14 k15 k16 k20 k21 k10b k11b k12b k13b k14b k15b k16b k20b k21b k10c k11c k12c k13c k14c k15c k16c k20c k21c f1 f2 f1b f2b f1c f2c HS1 HS2 HS1b HS2b HS1c HS2c HT HTb HTc HN1 HT2 go gf gh
    have hzW : w.heap.size + 2 ≤ w3.heap.size := by omega
    clear h3
    go_region
    all_goals go_wp2_with fail
    change bodyPost _ _ _ _ _ (((put9 w3 w.heap.size (w.heap.size + 1) _ _ _ _ _ _ _ _ _)).drew); refine put9_all (fun W => bodyPost _ _ _ _ _ ((W).drew)) (by omega) HSA.out HSB.out ?_; rintro W ⟨q0, q1, q2, q3, q4, q5, q6, r0, r1⟩ hoth hsz htn; have HTN := hid (htn w HTW.out (by omega) (by omega)); clear htn; have hgA : w.heap.size < W.heap.size := (by omega); have hgB : w.heap.size + 1 < W.heap.size := (by omega); refine bodyPost_ret (v := .tuple #[tkV 5 (s.extract a e) ng1 (.slice sa1 sn1 sc1) b 0 (a : Int), .int .i64 (e : Int), msV 0 0]) (by simp [results, Tryz.results59, go_sem, tkV, noTk, msV, q0, q1, q2, q3, q4, q5, q6, r0, r1, hgA, hgB]) rfl ?_
    exact ⟨HTN.out.drew, _, _, _, _, _, _, _, _, _, _, _, _, rfl, rfl, rfl, rfl, rfl, rfl, rfl, rfl, rfl, (HNW.out.blocks (w' := W.drew) (by show w3.heap.size ≤ W.heap.size; omega) (fun b hb _ => hoth b (by omega) (by omega))).mono (by omega)⟩
end Go.Proofs.YtcmhfeeocehlaaaGreatDoor
