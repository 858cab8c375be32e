/-
  Texts and characters: what stands between quotes.
-/
import Derived.Test.YtcmhfeeocehlaaaGreatDoorNames
namespace Go.Proofs.YtcmhfeeocehlaaaGreatDoor
set_option linter.unusedSimpArgs false
set_option linter.unusedVariables false
open Go.RowKit Go.PlainAid
attribute [local go_sem ↓] Go.wp_at_zero Go.wp_at_succ

theorem isD_iff (c : Int) : isD c = true ↔ 48 ≤ c ∧ c ≤ 57 := by simp [isD]
/-- the number of j digits behind a -/
def digN (s : ByteArray) (a : Nat) : Nat → Int
  | 0 => 0
  | j + 1 => digN s a j * 10 + (bt s (a + 1 + j) - 48)
theorem escB_digits {s : ByteArray} {a : Nat} (h1 : ¬ bt s (a + 1) = 110) (h2 : ¬ bt s (a + 1) = 116) (h3 : ¬ (bt s (a + 1) = 92 ∨ bt s (a + 1) = 34)) (hd : ∀ j, j < 3 → isD (bt s (a + 1 + j)) = true) :
    escB s a = if 255 < digN s a 3 then (0, 0) else (digN s a 3, 4) := by
  have d0 := hd 0 (by omega)
  have d1 := hd 1 (by omega)
  have d2 := hd 2 (by omega)
  unfold escB
  rw [if_neg h1, if_neg h2, if_neg h3, if_pos ⟨d0, d1, d2⟩]
  simp only [digN, Nat.add_zero, Int.zero_mul, Int.zero_add]
theorem escB_none {s : ByteArray} {a j : Nat} (h1 : ¬ bt s (a + 1) = 110) (h2 : ¬ bt s (a + 1) = 116) (h3 : ¬ (bt s (a + 1) = 92 ∨ bt s (a + 1) = 34)) (hj : j < 3) (hd : isD (bt s (a + 1 + j)) = false) : escB s a = (0, 0) := by
  unfold escB
  rw [if_neg h1, if_neg h2, if_neg h3, if_neg]
  rintro ⟨d0, d1, d2⟩
  rcases (show j = 0 ∨ j = 1 ∨ j = 2 by omega) with rfl | rfl | rfl
  · rw [show a + 1 + 0 = a + 1 from rfl, d0] at hd; cases hd
  · rw [show a + 1 + 1 = a + 2 from rfl, d1] at hd; cases hd
  · rw [show a + 1 + 2 = a + 3 from rfl, d2] at hd; cases hd
/-- what escapeAt answers -/
def escV (p : Int × Nat) : Value := .tuple #[.int .u8 p.1, .int .i64 (p.2 : Int)]

set_option maxHeartbeats 1000000 in
set_option maxRecDepth 100000 in
theorem escape_raw (s : ByteArray) (a : Nat) (w : World) (hs : s.size ≤ 65536) (ha : a ≤ s.size) :
    Calls Tryz.prog 74 #[.string s, .int .i64 (a : Int)] w fun e w' => e = .returned (escV (escB s a)) ∧ w' = w := by
  have HB := hid (fun w => byteAt_raw s (a + 1) w (by omega))
  have hcast : ((a + 1 : Nat) : Int) = (a : Int) + 1 := by omega
  rw [hcast] at HB
  by_cases h1 : bt s (a + 1) = 110
  · have he : escB s a = (10, 2) := by unfold escB; rw [if_pos h1]
    rw [he]
    rw [h1] at HB
    clear he h1
    go_enter Tryz.func74, Tryz.ntmps74
    go_wp2_with (go_at_call 25; refine (HB.out _).mono ?_; rintro e w' ⟨rfl, rfl⟩)
    go_ret2
    exact ⟨rfl, rfl⟩
  by_cases h2 : bt s (a + 1) = 116
  · have he : escB s a = (9, 2) := by unfold escB; rw [if_neg h1, if_pos h2]
    rw [he]
    rw [h2] at HB
    clear he h1 h2
    go_enter Tryz.func74, Tryz.ntmps74
    go_wp2_with (go_at_call 25; refine (HB.out _).mono ?_; rintro e w' ⟨rfl, rfl⟩)
    go_ret2
    exact ⟨rfl, rfl⟩
  by_cases h3 : bt s (a + 1) = 92 ∨ bt s (a + 1) = 34
  · have he : escB s a = (bt s (a + 1), 2) := by unfold escB; rw [if_neg h1, if_neg h2, if_pos h3]
    rw [he]
    rcases h3 with h3 | h3
    · rw [h3] at HB ⊢
      clear he h1 h2 h3
      go_enter Tryz.func74, Tryz.ntmps74
      go_wp2_with (go_at_call 25; refine (HB.out _).mono ?_; rintro e w' ⟨rfl, rfl⟩)
      go_ret2
      exact ⟨rfl, rfl⟩
    · rw [h3] at HB ⊢
      clear he h1 h2 h3
      go_enter Tryz.func74, Tryz.ntmps74
      go_wp2_with (go_at_call 25; refine (HB.out _).mono ?_; rintro e w' ⟨rfl, rfl⟩)
      go_ret2
      exact ⟨rfl, rfl⟩
  · have hY := fun hd => escB_digits (s := s) (a := a) h1 h2 h3 hd
    have hN := fun j hj hd => escB_none (s := s) (a := a) (j := j) h1 h2 h3 hj hd
    obtain ⟨E, hE⟩ : ∃ E, escB s a = E := ⟨_, rfl⟩
    rw [hE] at hY hN ⊢
    have HY := hid hY
    have HN := hid hN
    have e1 : (bt s (a + 1) == 110) = false := by simpa using h1
    have e2 : (bt s (a + 1) == 116) = false := by simpa using h2
    have e3 : (bt s (a + 1) == 92) = false := by simpa using fun e => h3 (.inl e)
    have e4 : (bt s (a + 1) == 34) = false := by simpa using fun e => h3 (.inr e)
    clear hY hN hE h3 h1 h2
    go_enter Tryz.func74, Tryz.ntmps74
    go_wp2_with (go_at_call 25; refine (HB.out _).mono ?_; rintro e w' ⟨rfl, rfl⟩)
    go_loop [7, 8] (fun n i => ∃ j : Nat, j ≤ 3 ∧ n = .int .i64 (digN s a j) ∧ i = .int .i64 ((a + 1 + j : Nat) : Int) ∧ 0 ≤ digN s a j ∧ digN s a j ≤ 1000 ∧ (j ≤ 2 → digN s a j ≤ 99) ∧ Hid (∀ i, i < j → isD (bt s (a + 1 + i)) = true)) (fun _ i => a + 4 - (intOf i).toNat)
    case atStart => exact ⟨0, by omega, rfl, by simp, by simp [digN], by simp [digN], by simp [digN], hid (fun i h => by omega)⟩
    case round =>
      obtain ⟨j, hj, rfl, rfl, hn0, hn1, hn2, HD⟩ := hrel
      clear HB e1 e2 e3 e4
      by_cases h3 : j = 3
      · subst h3
        have hE := HY.out HD.out
        obtain ⟨N, hN⟩ : ∃ N, digN s a 3 = N := ⟨_, rfl⟩
        rw [hN] at hE hn0 hn1 ⊢
        by_cases hb : 255 < N
        · rw [if_pos hb] at hE
          subst hE
          clear HY HN HD hN hn2
          go_wp2_with fail
          go_ret2
          exact ⟨rfl, rfl⟩
        · rw [if_neg hb] at hE
          subst hE
          clear HY HN HD hN hn2
          go_wp2_with fail
          go_ret2
          exact ⟨rfl, rfl⟩
      · have hj3 : j < 3 := by omega
        have HB := hid (fun w => byteAt_raw s (a + 1 + j) w (by omega))
        have HL := hid (fun w => digit_raw (bt s (a + 1 + j)) w (bt_nonneg s _) (bt_le s _))
        cases hd : isD (bt s (a + 1 + j)) with
        | false =>
          have hE := HN.out j hj3 hd
          subst hE
          rw [hd] at HL
          clear HY HN HD hd
          go_wp2_with (first
            | (go_at_call 25; refine (HB.out _).mono ?_; rintro e w' ⟨rfl, rfl⟩)
            | (go_at_call 28; refine (HL.out _).mono ?_; rintro e w' ⟨rfl, rfl⟩))
          go_ret2
          exact ⟨rfl, rfl⟩
        | true =>
          have hdi := (isD_iff _).1 hd
          rw [hd] at HL
          have hnx : digN s a (j + 1) = digN s a j * 10 + (bt s (a + 1 + j) - 48) := rfl
          have HD' : Hid (∀ i, i < j + 1 → isD (bt s (a + 1 + i)) = true) := hid (fun i hi => by
            rcases (show i < j ∨ i = j by omega) with h | rfl
            · exact HD.out i h
            · exact hd)
          have hn99 := hn2 (by omega)
          have hj1 : j + 1 ≤ 2 → digN s a j ≤ 9 := by
            intro hj
            rcases (show j = 0 ∨ j = 1 by omega) with rfl | rfl
            · simp [digN]
            · have := (isD_iff _).1 (HD.out 0 (by omega))
              simp only [digN, Nat.add_zero, Int.zero_mul, Int.zero_add] at this ⊢
              omega
          obtain ⟨N, hN⟩ : ∃ N, digN s a j = N := ⟨_, rfl⟩
          obtain ⟨c, hc⟩ : ∃ c, bt s (a + 1 + j) = c := ⟨_, rfl⟩
          obtain ⟨M, hM⟩ : ∃ M, digN s a (j + 1) = M := ⟨_, rfl⟩
          rw [hN, hc, hM] at hnx
          rw [hN] at hn0 hn1 hn99 hj1 ⊢
          rw [hc] at HB HL hdi
          have HM := hid hM
          clear HY HN HD hd hN hc hM hn2
          go_wp2_with (first
            | (go_at_call 25; refine (HB.out _).mono ?_; rintro e w' ⟨rfl, rfl⟩)
            | (go_at_call 28; refine (HL.out _).mono ?_; rintro e w' ⟨rfl, rfl⟩))
          go_round
          · refine ⟨j + 1, by omega, ?_, ?_, ?_, ?_, ?_, HD'⟩
            · rw [HM.out, hnx]
            · simp; omega
            · rw [HM.out]; omega
            · rw [HM.out]; omega
            · rw [HM.out]; omega
          · simp [intOf]; omega
end Go.Proofs.YtcmhfeeocehlaaaGreatDoor
namespace Go.Proofs.YtcmhfeeocehlaaaGreatDoor
set_option linter.unusedSimpArgs false
set_option linter.unusedVariables false
open Go.RowKit Go.PlainAid
attribute [local go_sem ↓] Go.wp_at_zero Go.wp_at_succ

theorem esc_bound {s : ByteArray} {a : Nat} (h : ¬ (escB s a).2 = 0) : 1 ≤ (escB s a).2 ∧ a + (escB s a).2 ≤ s.size ∧ 0 ≤ (escB s a).1 ∧ (escB s a).1 ≤ 255 := by
  unfold escB at h ⊢
  have hb := bt_nonneg s (a + 1)
  have hb' := bt_le s (a + 1)
  split
  · have := lt_of_bt (s := s) (a := a + 1) (by omega)
    simp; omega
  · rename_i h1
    rw [if_neg h1] at h
    split
    · have := lt_of_bt (s := s) (a := a + 1) (by omega)
      simp; omega
    · rename_i h2
      rw [if_neg h2] at h
      split
      · have := lt_of_bt (s := s) (a := a + 1) (by omega)
        simp; omega
      · rename_i h3
        rw [if_neg h3] at h
        split
        · rename_i h4
          rw [if_pos h4] at h
          have d1 := (isD_iff _).1 h4.1
          have d2 := (isD_iff _).1 h4.2.1
          have d3 := (isD_iff _).1 h4.2.2
          have := lt_of_bt (s := s) (a := a + 3) (by omega)
          split
          · rename_i h5; rw [if_pos h5] at h; simp at h
          · simp; omega
        · rename_i h4
          rw [if_neg h4] at h
          simp at h
theorem quF_fuel (s : ByteArray) : ∀ k k' a l, s.size - a ≤ k → s.size - a ≤ k' → quF s k a l = quF s k' a l := by
  have hz : ∀ k a l, s.size ≤ a → quF s k a l = .bad 31 s.size := fun k a l h => by
    cases k with
    | zero => rfl
    | succ k =>
      unfold quF
      rw [bt_end s h, if_neg (by omega), if_neg (by omega), if_neg (by omega)]
  intro k
  induction k with
  | zero => intro k' a l h _; rw [hz _ _ _ (by omega), hz _ _ _ (by omega)]
  | succ k ih =>
    intro k' a l h h'
    cases k' with
    | zero => rw [hz _ _ _ (by omega), hz _ _ _ (by omega)]
    | succ k' =>
      unfold quF
      rw [ih k' (a + 1) _ (by omega) (by omega)]
      by_cases he : (escB s a).2 = 0
      · rw [if_pos he, if_pos he]
      · have := esc_bound he
        rw [ih k' (a + (escB s a).2) _ (by omega) (by omega)]
theorem qu_end {s : ByteArray} {a : Nat} {l : List UInt8} (h : s.size ≤ a) : qu s a l = .bad 31 s.size := by
  unfold qu; rw [Nat.sub_eq_zero_of_le h]; rfl
theorem qu_succ {s : ByteArray} {a : Nat} {l : List UInt8} (h : a < s.size) : ∃ k, s.size - a = k + 1 := ⟨s.size - a - 1, by omega⟩
theorem qu_step {s : ByteArray} {a : Nat} {l : List UInt8} (h : a < s.size) : qu s a l = if bt s a = 34 then .ok l (a + 1)
    else if bt s a = 92 then (if (escB s a).2 = 0 then .bad 32 a else qu s (a + (escB s a).2) (l ++ [(escB s a).1.toNat.toUInt8]))
    else (if bt s a < 32 ∨ 126 < bt s a then .bad 32 a else qu s (a + 1) (l ++ [(bt s a).toNat.toUInt8])) := by
  obtain ⟨k, hk⟩ : ∃ k, s.size - a = k + 1 := ⟨s.size - a - 1, by omega⟩
  unfold qu
  rw [hk]
  conv => lhs; unfold quF
  rw [if_pos h, quF_fuel s k (s.size - (a + 1)) (a + 1) _ (by omega) (Nat.le_refl _)]
  by_cases he : (escB s a).2 = 0
  · rw [if_pos he, if_pos he]
  · have := esc_bound he
    rw [quF_fuel s k (s.size - (a + (escB s a).2)) (a + (escB s a).2) _ (by omega) (Nat.le_refl _)]

/-- append, at the operation -/
theorem wpList_app (w : World) {ops : Array Oper} {rest : List Oper} {o : Oper} {a : Act} {Q : Exit → Act → World → Prop} (hg : o.guard = none) (s x : Operand) (t tx : TypeId) (ho : o.op = .call { callee := .builtin .append, args := #[s, x], argTypes := #[t, tx] })
    (v xv : Value) (hs : a.eval s = v) (hx : a.eval x = xv) (v' : Value) (w' : World) (hrun : (Builtin.append_ #[t, tx] o.type #[v, xv]).run Tryz.prog w = .ok v' w')
    (hK : wpList Tryz.prog ops Q rest (a.put o.dst v') w') : wpList Tryz.prog ops Q (o :: rest) a w := by
  refine wpList_plain hg fun K' hK' => ?_
  unfold Oper.wp
  simp [execOp, ho, resolve, invoke, builtin, hs, hx, hrun, Result.andThen]
  exact hK' _ _ hK

/-- one more byte -/
theorem said_append {w : World} {v : Value} {l : List UInt8} (h : BR w v l) (c : Int) (h0 : 0 ≤ c) (h1 : c ≤ 255) (hl : l.length ≤ 65536) :
    ∃ v' w', (Builtin.append_ #[80, 80] 80 #[v, .slice (some ⟨w.heap.size, 0, none⟩) 1 1]).run Tryz.prog (w.alloc (.cells #[.int .u8 c] 5)) = .ok v' w' ∧ BR w' v' (l ++ [c.toNat.toUInt8]) ∧
      (∀ B, B ≤ w.heap.size → (∀ g, v.ownBlock = some g → B ≤ g) → (∀ g, v'.ownBlock = some g → B ≤ g)) ∧ (∀ a, Tn No a w → (∀ g, v.ownBlock = some g → a.heap.size ≤ g) → Tn No a w') := by
  have hc : ((c.toNat.toUInt8).toNat : Int) = c := by
    rw [UInt8.toNat_ofNat']; omega
  have hsrc : Src Tryz.prog 1 80 (.slice (some ⟨w.heap.size, 0, none⟩) 1 1) ([c.toNat.toUInt8] : List UInt8).length (bc [c.toNat.toUInt8]) (w.alloc (.cells #[.int .u8 c] 5)) := by
    refine Src.ofSlice _ Tryz.underlying80 _ 1 1 _ (by simp [bc]) (fun j u hu => ?_) (bc_one _)
    have hj : j = 0 ∧ u = .int .u8 c := by
      simp only [bc, List.map_cons, List.map_nil, hc] at hu
      cases j with
      | zero => simp at hu; exact ⟨rfl, hu.symm⟩
      | succ j => simp at hu
    obtain ⟨rfl, rfl⟩ := hj
    rw [addr_add, World.cell?_alloc_at _ _ _ _ (by simp)]
    rfl
  obtain ⟨v', w', hr, hbr, hg, hown⟩ := br_append 80 (h.no ((Tn.refl No w).alloc _)) hsrc (by simp; omega)
  refine ⟨v', w', hr, hbr, fun B hB hv g hg' => ?_, fun a t hv => (t.alloc _).grown hg (fun i hi hlt => by have := hv i hi; omega)⟩
  rcases hown with e | e
  · exact hv g (by rw [← e]; exact hg')
  · rw [e] at hg'; cases hg'; simp; omega

/-- what stands in what quotedAt answers -/
def QSh (Q : Qd) (x : ByteArray) (en c q : Int) : Prop := match Q with
  | .bad c' p' => x = ⟨#[]⟩ ∧ en = 0 ∧ c = c' ∧ q = (p' : Int)
  | .ok l e' => x = strOf l ∧ en = (e' : Int) ∧ c = 0 ∧ q = 0
def QPost (w : World) (Q : Qd) (e : Ending) (w' : World) : Prop := Tn No w w' ∧ ∃ x en c q, e = .returned (.tuple #[.string x, .int .i64 en, msV c q]) ∧ QSh Q x en c q

theorem one_block {w w1 : World} {C : Array Value} {t : TypeId} (ht : Tn No (w.alloc (.cells C t)) w1) : (∀ i, w1.cell? ⟨w.heap.size, i, none⟩ = C[i]?) ∧ (∀ i, w1.frozen? ⟨w.heap.size, i, none⟩ = false) ∧ w.heap.size + 1 ≤ w1.heap.size := by
  have hz := ht.size
  simp at hz
  have e1 : w1.heap[w.heap.size]? = some (.cells C t (0, 0)) := by
    rw [ht.block _ (by simp) (fun e => e)]
    exact heap_alloc_new w _
  exact ⟨(blk_facts e1).1, (blk_facts e1).2, by omega⟩
theorem set2_tn {w w1 : World} {o : Obj} {u0 u1 : Value} (t : Tn No (w.alloc o) w1) : Tn No w ((w1.setCell ⟨w.heap.size, 0, none⟩ u0).setCell ⟨w.heap.size, 1, none⟩ u1) := by
  refine Tn.set (Tn.set (Tn.thenNo ((Tn.refl No w).alloc o) t) _ _ ?_) _ _ ?_ <;> (intro e; simp at e)
theorem set2_cells {w1 : World} {g : Nat} {u0 u1 a0 a1 : Value} (k0 : w1.cell? ⟨g, 0, none⟩ = some a0) (k1 : w1.cell? ⟨g, 1, none⟩ = some a1) :
    ((w1.setCell ⟨g, 0, none⟩ u0).setCell ⟨g, 1, none⟩ u1).cell? ⟨g, 0, none⟩ = some u0 ∧ ((w1.setCell ⟨g, 0, none⟩ u0).setCell ⟨g, 1, none⟩ u1).cell? ⟨g, 1, none⟩ = some u1 := by
  refine ⟨?_, ?_⟩
  · rw [cell_set_ne (by omega)]; exact set_same (by rw [k0]; rfl)
  · exact set_same (by rw [cell_set_ne (by omega), k1]; rfl)

set_option maxHeartbeats 2000000 in
set_option maxRecDepth 100000 in
theorem quoted_raw (s : ByteArray) (a : Nat) (w : World) (hs : s.size ≤ 65536) (ha : a < s.size) :
    Calls Tryz.prog 60 #[.string s, .int .i64 (a : Int)] w (QPost w (qu s (a + 1) [])) := by
  have hb := get_bt s
  obtain ⟨Q, hQ⟩ : ∃ Q, qu s (a + 1) [] = Q := ⟨_, rfl⟩
  rw [hQ]
  have HQ := hid hQ
  clear hQ
  go_enter Tryz.func60, Tryz.ntmps60
  go_wp2_with fail
  go_loopw [1, 7] (fun i v wr => ∃ (k : Nat) (l : List UInt8), k ≤ s.size ∧ i = .int .i64 (k : Int) ∧ BR wr v l ∧ l.length ≤ k ∧ (∀ g, v.ownBlock = some g → w.heap.size + 1 ≤ g) ∧ Tn No (w.alloc (.cells #[.int .i64 0, .int .i64 0] 26)) wr ∧ Hid (qu s k l = Q)) (fun i _ _ => s.size - (intOf i).toNat)
  case atStart => exact ⟨a + 1, [], by omega, by simp, BR.nil _, by simp, fun g hg => (by cases hg), Tn.refl _ _, HQ⟩
  case round =>
    obtain ⟨k, l, hk, rfl, hbr, hlk, hob, ht, HP⟩ := hrel
    obtain ⟨av, cv, rfl, _⟩ := hbr.rw.form
    obtain ⟨k2, f2, hz⟩ := one_block ht
    have k20 := k2 0
    have k21 := k2 1
    simp at k20 k21
    clear k2 HQ
    by_cases hlt : k < s.size
    · have hst := qu_step (l := l) hlt
      obtain ⟨c, hc⟩ : ∃ c, bt s k = c := ⟨_, rfl⟩
      have hc0 := bt_nonneg s k
      have hc1 := bt_le s k
      have hbk := hb k hlt
      rw [hc] at hbk hst hc0 hc1
      clear hb hc
      by_cases c1 : c = 34
      · rw [if_pos c1] at hst
        have hq : Q = .ok l (k + 1) := by rw [← HP.out, hst]
        subst hq
        subst c1
        have hcv := br_string hbr
        have HT := hid ht
        clear HP hst ht hob hbr
        go_wp2_with fail
        refine bodyPost_ret (v := .tuple #[.string ⟨l.toArray⟩, .int .i64 ((k : Int) + 1), msV 0 0]) (by obtain ⟨q0, q1⟩ := set2_cells (u0 := .int .i64 0) (u1 := .int .i64 0) k20 k21; simp [results, Tryz.results60, go_sem, msV, q0, q1]) rfl ?_
        exact ⟨set2_tn HT.out, _, _, _, _, rfl, rfl, by simp, rfl, rfl⟩
      rw [if_neg c1] at hst
      by_cases c2 : c = 92
      · rw [if_pos c2] at hst
        subst c2
        have hes := fun w => escape_raw s k w hs hk
        have hbd := esc_bound (s := s) (a := k)
        obtain ⟨⟨d, n⟩, hE⟩ : ∃ p, escB s k = p := ⟨_, rfl⟩
        rw [hE] at hes hst hbd
        simp only at hst hbd
        have HES := hid hes
        clear hes hE c1
        by_cases hn : n = 0
        · subst hn
          rw [if_pos rfl] at hst
          have hq : Q = .bad 32 k := by rw [← HP.out, hst]
          subst hq
          have HT := hid ht
          clear HP hst ht hob hbr hbd
          go_wp2_with (go_at_call 74; refine (HES.out _).mono ?_; rintro e w' ⟨rfl, rfl⟩; simp only [escV])
          refine bodyPost_ret (v := .tuple #[.string ⟨#[]⟩, .int .i64 0, msV 32 (k : Int)]) (by obtain ⟨q0, q1⟩ := set2_cells (u0 := .int .i64 32) (u1 := .int .i64 (k : Int)) k20 k21; simp [results, Tryz.results60, go_sem, msV, q0, q1]) rfl ?_
          exact ⟨set2_tn HT.out, _, _, _, _, rfl, rfl, rfl, rfl, rfl⟩
        · rw [if_neg hn] at hst
          obtain ⟨hn1, hn2, hd0, hd1⟩ := hbd hn
          obtain ⟨va, wa, hr, hbr', hown', htn'⟩ := said_append hbr d hd0 hd1 (by omega)
          have hob' := hown' (w.heap.size + 1) (by omega) hob
          have ht' := htn' _ ht (by simpa using hob)
          have HR := hid hr
          have HREL := hid (And.intro hbr' (And.intro hob' ht'))
          have HST := hid (hst.symm.trans HP.out)
          have hnb : ((n : Int) == 0) = false := by rw [beq_eq_false_iff_ne]; omega
          clear HP hst ht hob hbr hbd hr hbr' hown' htn' hob' ht'
          go_wp2_with (first
            | (go_at_call 74; refine (HES.out _).mono ?_; rintro e w' ⟨rfl, rfl⟩; simp only [escV])
            | (at_builtin; refine wpList_app _ rfl _ _ _ _ rfl _ _ rfl rfl va wa HR.out ?_))
          refine ⟨⟨k + n, _, hn2, by simp, HREL.out.1, by simp; omega, HREL.out.2.1, HREL.out.2.2, HST⟩, ?_⟩
          simp [intOf]; omega
      rw [if_neg c2] at hst
      by_cases c3 : c < 32 ∨ 126 < c
      · rw [if_pos c3] at hst
        have hq : Q = .bad 32 k := by rw [← HP.out, hst]
        subst hq
        have HT := hid ht
        clear HP hst ht hob hbr
        rcases c3 with c3 | c3
        · go_wp2_with fail
          refine bodyPost_ret (v := .tuple #[.string ⟨#[]⟩, .int .i64 0, msV 32 (k : Int)]) (by obtain ⟨q0, q1⟩ := set2_cells (u0 := .int .i64 32) (u1 := .int .i64 (k : Int)) k20 k21; simp [results, Tryz.results60, go_sem, msV, q0, q1]) rfl ?_
          exact ⟨set2_tn HT.out, _, _, _, _, rfl, rfl, rfl, rfl, rfl⟩
        · go_wp2_with fail
          refine bodyPost_ret (v := .tuple #[.string ⟨#[]⟩, .int .i64 0, msV 32 (k : Int)]) (by obtain ⟨q0, q1⟩ := set2_cells (u0 := .int .i64 32) (u1 := .int .i64 (k : Int)) k20 k21; simp [results, Tryz.results60, go_sem, msV, q0, q1]) rfl ?_
          exact ⟨set2_tn HT.out, _, _, _, _, rfl, rfl, rfl, rfl, rfl⟩
      · rw [if_neg c3] at hst
        have c4 : ¬ c < 32 := fun e => c3 (.inl e)
        have c5 : ¬ 126 < c := fun e => c3 (.inr e)
        obtain ⟨va, wa, hr, hbr', hown', htn'⟩ := said_append hbr c hc0 hc1 (by omega)
        have hob' := hown' (w.heap.size + 1) (by omega) hob
        have ht' := htn' _ ht (by simpa using hob)
        have HR := hid hr
        have HREL := hid (And.intro hbr' (And.intro hob' ht'))
        have HST := hid (hst.symm.trans HP.out)
        clear HP hst ht hob hbr hr hbr' hown' htn' hob' ht' c3
        go_wp2_with (at_builtin; refine wpList_app _ rfl _ _ _ _ rfl _ _ rfl rfl va wa HR.out ?_)
        refine ⟨⟨k + 1, _, by omega, by simp, HREL.out.1, by simp; omega, HREL.out.2.1, HREL.out.2.2, HST⟩, ?_⟩
        simp [intOf]; omega
    · have hE := qu_end (s := s) (a := k) (l := l) (by omega)
      have hq : Q = .bad 31 s.size := by rw [← HP.out, hE]
      subst hq
      have HT := hid ht
      clear HP hE ht hob hbr
      go_wp2_with fail
      refine bodyPost_ret (v := .tuple #[.string ⟨#[]⟩, .int .i64 0, msV 31 (s.size : Int)]) (by obtain ⟨q0, q1⟩ := set2_cells (u0 := .int .i64 31) (u1 := .int .i64 (s.size : Int)) k20 k21; simp [results, Tryz.results60, go_sem, msV, q0, q1]) rfl ?_
      exact ⟨set2_tn HT.out, _, _, _, _, rfl, rfl, rfl, rfl, rfl⟩
end Go.Proofs.YtcmhfeeocehlaaaGreatDoor
