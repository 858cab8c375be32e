/-
  A text that lies within another one, with a blank or the end behind it, is cut into the same words there.
-/
import Derived.Test.YtcmhfeeocehlaaaGreatDoorTokA
namespace Go.Proofs.YtcmhfeeocehlaaaGreatDoor
set_option linter.unusedSimpArgs false
set_option linter.unusedVariables false
open Go.RowKit Go.PlainAid

/-- s lies in c from o on, and a blank or the end is behind it -/
structure Sim (s : ByteArray) (o : Nat) (c : ByteArray) : Prop where
  at' : ∀ k, k < s.size → bt c (o + k) = bt s k
  le : o + s.size ≤ c.size
  stop : bt c (o + s.size) = 0 ∨ bt c (o + s.size) = 10 ∨ bt c (o + s.size) = 32
  ext : ∀ i j, j ≤ s.size → c.extract (o + i) (o + j) = s.extract i j

variable {s c : ByteArray} {o : Nat}
theorem Sim.is (h : Sim s o c) {k : Nat} (hk : k ≤ s.size) {x : Int} (h0 : x ≠ 0) (h1 : x ≠ 10) (h2 : x ≠ 32) : (bt c (o + k) = x ↔ bt s k = x) := by
  by_cases hlt : k < s.size
  · rw [h.at' k hlt]
  · obtain rfl : k = s.size := by omega
    rw [bt_end s (Nat.le_refl _)]
    rcases h.stop with e | e | e <;> rw [e] <;> omega
theorem Sim.p (h : Sim s o c) {p : Int → Bool} (h0 : p 0 = false) (h1 : p 10 = false) (h2 : p 32 = false) {k : Nat} (hk : k ≤ s.size) : p (bt c (o + k)) = p (bt s k) := by
  by_cases hlt : k < s.size
  · rw [h.at' k hlt]
  · obtain rfl : k = s.size := by omega
    rw [bt_end s (Nat.le_refl _), h0]
    rcases h.stop with e | e | e <;> rw [e] <;> assumption
theorem Sim.L (h : Sim s o c) {k : Nat} (hk : k ≤ s.size) : isL (bt c (o + k)) = isL (bt s k) := h.p rfl rfl rfl hk
theorem Sim.D (h : Sim s o c) {k : Nat} (hk : k ≤ s.size) : isD (bt c (o + k)) = isD (bt s k) := h.p rfl rfl rfl hk
theorem Sim.run (h : Sim s o c) {p : Int → Bool} (h0 : p 0 = false) (h1 : p 10 = false) (h2 : p 32 = false) : ∀ n k, k ≤ s.size → s.size - k = n → run p c (o + k) = o + Go.Proofs.YtcmhfeeocehlaaaGreatDoor.run p s k := by
  intro n
  induction n with
  | zero =>
    intro k hk hn
    have hp := h.p h0 h1 h2 hk
    have : p (bt s k) = false := by rw [bt_end s (by omega), h0]
    rw [run_end (s := s) (by omega), run_no (by rw [hp, this])]
  | succ n ih =>
    intro k hk hn
    have hp := h.p h0 h1 h2 hk
    cases hv : p (bt s k) with
    | false => rw [run_no hv, run_no (by rw [hp, hv])]
    | true =>
      have hle := h.le
      rw [run_yes (s := s) (by omega) hv, run_yes (s := c) (by omega) (by rw [hp, hv])]
      exact ih (k + 1) (by omega) (by omega)
theorem Sim.runN (h : Sim s o c) {k : Nat} (hk : k ≤ s.size) : Go.Proofs.YtcmhfeeocehlaaaGreatDoor.run isN c (o + k) = o + Go.Proofs.YtcmhfeeocehlaaaGreatDoor.run isN s k := h.run rfl rfl rfl _ k hk rfl
theorem Sim.runD (h : Sim s o c) {k : Nat} (hk : k ≤ s.size) : Go.Proofs.YtcmhfeeocehlaaaGreatDoor.run isD c (o + k) = o + Go.Proofs.YtcmhfeeocehlaaaGreatDoor.run isD s k := h.run rfl rfl rfl _ k hk rfl
theorem Sim.runS (h : Sim s o c) {k : Nat} (hk : k ≤ s.size) : Go.Proofs.YtcmhfeeocehlaaaGreatDoor.run isS c (o + k) = o + Go.Proofs.YtcmhfeeocehlaaaGreatDoor.run isS s k := h.run (by decide) (by decide) (by decide) _ k hk rfl

theorem Sim.opens (h : Sim s o c) {k : Nat} (hk : k ≤ s.size) : opens c (o + k) = opens s k := by
  unfold Go.Proofs.YtcmhfeeocehlaaaGreatDoor.opens
  by_cases hlt : k < s.size
  · rw [Bool.eq_iff_iff]
    simp only [Bool.and_eq_true, beq_iff_eq]
    rw [h.is hk (by decide) (by decide) (by decide), show o + k + 1 = o + (k + 1) by omega, h.is (by omega) (by decide) (by decide) (by decide)]
  · have e1 : (bt s k == 40) = false := by rw [bt_end s (by omega)]; rfl
    have e2 : (bt c (o + k) == 40) = false := by rw [beq_eq_false_iff_ne, ne_eq, h.is hk (by decide) (by decide) (by decide), bt_end s (by omega)]; decide
    rw [e1, e2]; rfl
theorem Sim.closes (h : Sim s o c) {k : Nat} (hk : k ≤ s.size) : closes c (o + k) = closes s k := by
  unfold Go.Proofs.YtcmhfeeocehlaaaGreatDoor.closes
  by_cases hlt : k < s.size
  · rw [Bool.eq_iff_iff]
    simp only [Bool.and_eq_true, beq_iff_eq]
    rw [h.is hk (by decide) (by decide) (by decide), show o + k + 1 = o + (k + 1) by omega, h.is (by omega) (by decide) (by decide) (by decide)]
  · have e1 : (bt s k == 42) = false := by rw [bt_end s (by omega)]; rfl
    have e2 : (bt c (o + k) == 42) = false := by rw [beq_eq_false_iff_ne, ne_eq, h.is hk (by decide) (by decide) (by decide), bt_end s (by omega)]; decide
    rw [e1, e2]; rfl
theorem Sim.rem (h : Sim s o c) : ∀ n k d e, s.size - k ≤ n → k ≤ s.size → rem s k d = some e → Go.Proofs.YtcmhfeeocehlaaaGreatDoor.rem c (o + k) d = some (o + e) := by
  intro n
  induction n with
  | zero =>
    intro k d e hn hk hr
    rw [rem_end (by omega)] at hr
    cases hr
  | succ n ih =>
    intro k d e hn hk hr
    by_cases hlt : k < s.size
    · have ho := h.opens hk
      have hcl := h.closes hk
      have hle := h.le
      cases h1 : Go.Proofs.YtcmhfeeocehlaaaGreatDoor.opens s k with
      | true =>
        have := opens_lt h1
        rw [rem_open h1] at hr
        rw [rem_open (by rw [ho, h1]), show o + k + 2 = o + (k + 2) by omega]
        exact ih _ _ _ (by omega) (by omega) hr
      | false =>
        rw [h1] at ho
        cases h2 : Go.Proofs.YtcmhfeeocehlaaaGreatDoor.closes s k with
        | true =>
          have := closes_lt h2
          rw [h2] at hcl
          by_cases hd : d ≤ 1
          · rw [rem_shut1 h1 h2 hd] at hr
            cases hr
            rw [rem_shut1 ho hcl hd]
            rfl
          · rw [rem_shut2 h1 h2 hd] at hr
            rw [rem_shut2 ho hcl hd, show o + k + 2 = o + (k + 2) by omega]
            exact ih _ _ _ (by omega) (by omega) hr
        | false =>
          rw [h2] at hcl
          rw [rem_skip h1 h2 hlt] at hr
          rw [rem_skip ho hcl (by omega), show o + k + 1 = o + (k + 1) by omega]
          exact ih _ _ _ (by omega) (by omega) hr
    · rw [rem_end (by omega)] at hr
      cases hr
theorem Sim.B (h : Sim s o c) {k : Nat} (hk : k < s.size) : isB (bt c (o + k)) = isB (bt s k) := by rw [h.at' k hk]
theorem Sim.bl (h : Sim s o c) : ∀ n k e, s.size - k ≤ n → k ≤ s.size → bl s k = some e → Go.Proofs.YtcmhfeeocehlaaaGreatDoor.bl c (o + k) = Go.Proofs.YtcmhfeeocehlaaaGreatDoor.bl c (o + e) := by
  intro n
  induction n with
  | zero =>
    intro k e hn hk hb
    rw [bl_end (by omega)] at hb
    cases hb; rfl
  | succ n ih =>
    intro k e hn hk hb
    by_cases hlt : k < s.size
    · have hB := h.B hlt
      have ho := h.opens hk
      cases h1 : isB (bt s k) with
      | true =>
        rw [bl_blank h1] at hb
        rw [bl_blank (by rw [hB, h1]), show o + k + 1 = o + (k + 1) by omega]
        exact ih _ _ (by omega) (by omega) hb
      | false =>
        rw [h1] at hB
        cases h2 : Go.Proofs.YtcmhfeeocehlaaaGreatDoor.opens s k with
        | true =>
          rw [h2] at ho
          cases h3 : Go.Proofs.YtcmhfeeocehlaaaGreatDoor.rem s k 0 with
          | none => rw [bl_none h1 h2 h3] at hb; cases hb
          | some b =>
            have hbb := rem_bound h3
            rw [bl_some h1 h2 h3] at hb
            rw [bl_some hB ho (h.rem _ k 0 b (Nat.le_refl _) hk h3)]
            exact ih _ _ (by omega) (by omega) hb
        | false =>
          rw [bl_other h1 h2] at hb
          cases hb; rfl
    · rw [bl_end (by omega)] at hb
      cases hb; rfl

/-! ### words -/
def Wd.sh (o : Nat) : Wd → Wd
  | .bad c p => .bad c (o + p)
  | .ok t e => .ok { t with pl := o + t.pl } (o + e)
theorem Sim.stands (h : Sim s o c) {k : Int} {a e : Nat} (he : e ≤ s.size) : stands k c (o + a) (o + e) = (Go.Proofs.YtcmhfeeocehlaaaGreatDoor.stands k s a e).sh o := by
  unfold Go.Proofs.YtcmhfeeocehlaaaGreatDoor.stands
  rw [h.ext a e he]
  rfl
theorem Sim.limd (h : Sim s o c) {k : Int} {a e m : Nat} (he : e ≤ s.size) : limd k c (o + a) (o + e) m = (Go.Proofs.YtcmhfeeocehlaaaGreatDoor.limd k s a e m).sh o := by
  unfold Go.Proofs.YtcmhfeeocehlaaaGreatDoor.limd
  rw [show o + e - (o + a) = e - a by omega]
  split
  · rfl
  · exact h.stands he
def nmS (o : Nat) : Nat ⊕ Nat → Nat ⊕ Nat
  | .inl p => .inl (o + p)
  | .inr e => .inr (o + e)
theorem Sim.nm (h : Sim s o c) : ∀ n k, s.size - k ≤ n → k ≤ s.size → nm c (o + k) = nmS o (Go.Proofs.YtcmhfeeocehlaaaGreatDoor.nm s k) := by
  have hcond : ∀ k, k ≤ s.size → ((bt c (o + k) = 46 ∧ isL (bt c (o + k + 1)) = true) ↔ (bt s k = 46 ∧ isL (bt s (k + 1)) = true)) := fun k hk => by
    rw [h.is hk (by decide) (by decide) (by decide)]
    by_cases hlt : k < s.size
    · rw [show o + k + 1 = o + (k + 1) by omega, h.L (by omega)]
    · have : ¬ bt s k = 46 := by rw [bt_end s (by omega)]; decide
      exact ⟨fun e => absurd e.1 this, fun e => absurd e.1 this⟩
  intro n
  induction n with
  | zero =>
    intro k hn hk
    have hno : ¬ (bt s k = 46 ∧ isL (bt s (k + 1)) = true) := fun e => by rw [bt_end s (by omega)] at e; exact absurd e.1 (by decide)
    rw [nm_stop hno, nm_stop (fun e => hno ((hcond k hk).1 e))]
    rfl
  | succ n ih =>
    intro k hn hk
    by_cases hy : bt s k = 46 ∧ isL (bt s (k + 1)) = true
    · have hy' := (hcond k hk).2 hy
      have hlt := lt_of_p isL_0 hy.2
      have hr := h.runN (k := k + 1) (by omega)
      have hrl := run_le isN s (k + 1) (by omega)
      have hrg := run_ge isN s (k + 1)
      have hx : c.extract (o + k + 1) (Go.Proofs.YtcmhfeeocehlaaaGreatDoor.run isN c (o + k + 1)) = s.extract (k + 1) (Go.Proofs.YtcmhfeeocehlaaaGreatDoor.run isN s (k + 1)) := by
        rw [show o + k + 1 = o + (k + 1) by omega, hr, h.ext _ _ hrl]
      cases hv : resv (s.extract (k + 1) (Go.Proofs.YtcmhfeeocehlaaaGreatDoor.run isN s (k + 1))).data.toList with
      | true => rw [nm_bad hy hv, nm_bad hy' (by rw [hx, hv])]; rfl
      | false =>
        rw [nm_go hy hv, nm_go hy' (by rw [hx, hv]), show o + k + 1 = o + (k + 1) by omega, hr]
        exact ih _ (by omega) hrl
    · rw [nm_stop hy, nm_stop (fun e => hy ((hcond k hk).1 e))]
      rfl
theorem Sim.nameW (h : Sim s o c) {a : Nat} (ha : a ≤ s.size) : nameW c (o + a) = (Go.Proofs.YtcmhfeeocehlaaaGreatDoor.nameW s a).sh o := by
  have hrl := run_le isN s a ha
  rw [nameW_eq, nameW_eq, h.runN ha, h.ext _ _ hrl, h.nm _ _ (Nat.le_refl _) hrl]
  split
  · exact h.stands hrl
  · cases hm : Go.Proofs.YtcmhfeeocehlaaaGreatDoor.nm s (Go.Proofs.YtcmhfeeocehlaaaGreatDoor.run isN s a) with
    | inl p => rfl
    | inr e =>
      have := nmF_ge s _ _ _ hrl hm
      exact h.limd this.2
theorem Sim.tyvW (h : Sim s o c) {a : Nat} (ha : a < s.size) : tyvW c (o + a) = (Go.Proofs.YtcmhfeeocehlaaaGreatDoor.tyvW s a).sh o := by
  have hty : tyL c (o + a) = o + tyL s a := by
    unfold tyL
    have := h.is (k := a + 1) (x := 39) (by omega) (by decide) (by decide) (by decide)
    rw [show o + a + 1 = o + (a + 1) by omega]
    by_cases hq : bt s (a + 1) = 39
    · rw [if_pos hq, if_pos (this.2 hq)]; omega
    · rw [if_neg hq, if_neg (fun e => hq (this.1 e))]
  unfold Go.Proofs.YtcmhfeeocehlaaaGreatDoor.tyvW
  rw [hty]
  have htl : tyL s a ≤ s.size := by
    unfold tyL
    split
    · rename_i hq; have := lt_of_bt (s := s) (a := a + 1) (by omega); omega
    · omega
  rw [h.L htl]
  split
  · rw [h.runN htl]
    exact h.limd (run_le isN s _ htl)
  · rfl
theorem Sim.symW (h : Sim s o c) {a : Nat} (ha : a ≤ s.size) : symW c (o + a) = (Go.Proofs.YtcmhfeeocehlaaaGreatDoor.symW s a).sh o := by
  have hrl := run_le isS s a ha
  unfold Go.Proofs.YtcmhfeeocehlaaaGreatDoor.symW
  rw [h.runS ha, h.ext _ _ hrl]
  split
  · exact h.stands hrl
  · exact h.limd hrl
theorem Sim.frac (h : Sim s o c) {a : Nat} (ha : a ≤ s.size) : frac c (o + a) = o + Go.Proofs.YtcmhfeeocehlaaaGreatDoor.frac s a := by
  unfold Go.Proofs.YtcmhfeeocehlaaaGreatDoor.frac
  have h1 := h.is ha (x := 46) (by decide) (by decide) (by decide)
  by_cases hlt : a < s.size
  · have h2 := h.D (k := a + 1) (by omega)
    rw [show o + a + 1 = o + (a + 1) by omega, h2]
    by_cases hq : bt s a = 46 ∧ isD (bt s (a + 1)) = true
    · rw [if_pos hq, if_pos ⟨h1.2 hq.1, hq.2⟩]
      exact h.runD (by omega)
    · rw [if_neg hq, if_neg (fun e => hq ⟨h1.1 e.1, e.2⟩)]
  · have hn : ¬ bt s a = 46 := by rw [bt_end s (by omega)]; decide
    have n1 : ¬ (bt s a = 46 ∧ isD (bt s (a + 1)) = true) := fun e => hn e.1
    have n2 : ¬ (bt c (o + a) = 46 ∧ isD (bt c (o + a + 1)) = true) := fun e => hn (h1.1 e.1)
    rw [if_neg n1, if_neg n2]
theorem Sim.expo (h : Sim s o c) {a : Nat} (ha : a ≤ s.size) : expo c (o + a) = o + Go.Proofs.YtcmhfeeocehlaaaGreatDoor.expo s a := by
  unfold Go.Proofs.YtcmhfeeocehlaaaGreatDoor.expo
  have h1 := h.is ha (x := 101) (by decide) (by decide) (by decide)
  by_cases hq : bt s a = 101
  · have hlt := lt_of_bt (s := s) (a := a) (by omega)
    have h2 := h.is (k := a + 1) (x := 126) (by omega) (by decide) (by decide) (by decide)
    have hex : exD c (o + a) = o + exD s a := by
      unfold exD
      rw [show o + a + 1 = o + (a + 1) by omega]
      by_cases hq : bt s (a + 1) = 126
      · rw [if_pos hq, if_pos (h2.2 hq)]; omega
      · rw [if_neg hq, if_neg (fun e => hq (h2.1 e))]
    have hxl : exD s a ≤ s.size := by
      unfold exD
      split
      · rename_i hq; have := lt_of_bt (s := s) (a := a + 1) (by omega); omega
      · omega
    rw [hex, h.D hxl]
    by_cases hd : isD (bt s (exD s a)) = true
    · have y1 : bt s a = 101 ∧ isD (bt s (exD s a)) = true := ⟨hq, hd⟩
      have y2 : bt c (o + a) = 101 ∧ isD (bt s (exD s a)) = true := ⟨h1.2 hq, hd⟩
      rw [if_pos y1, if_pos y2]
      exact h.runD hxl
    · rw [if_neg (fun e => hd e.2), if_neg (fun e => hd e.2)]
  · have n1 : ¬ (bt s a = 101 ∧ isD (bt s (exD s a)) = true) := fun e => hq e.1
    have n2 : ¬ (bt c (o + a) = 101 ∧ isD (bt c (exD c (o + a))) = true) := fun e => hq (h1.1 e.1)
    rw [if_neg n1, if_neg n2]
theorem Sim.num (h : Sim s o c) {a : Nat} (ha : a ≤ s.size) : isNum c (o + a) = isNum s a := by
  unfold isNum
  rw [h.D ha]
  by_cases hlt : a < s.size
  · rw [h.at' a hlt, show o + a + 1 = o + (a + 1) by omega, h.D (by omega)]
  · have e1 : (bt s a == 126) = false := by rw [bt_end s (by omega)]; rfl
    have e2 : (bt c (o + a) == 126) = false := by rw [beq_eq_false_iff_ne, ne_eq, h.is ha (by decide) (by decide) (by decide), bt_end s (by omega)]; decide
    rw [e1, e2]; rfl
theorem Sim.whole (h : Sim s o c) {a : Nat} (hn : isNum s a = true) (ha : a ≤ s.size) : whole c (o + a) = o + Go.Proofs.YtcmhfeeocehlaaaGreatDoor.whole s a := by
  have h1 := nuD_lt hn
  have hnu : nuD c (o + a) = o + nuD s a := by
    unfold nuD
    have := h.is ha (x := 126) (by decide) (by decide) (by decide)
    by_cases hq : bt s a = 126
    · rw [if_pos hq, if_pos (this.2 hq)]; omega
    · rw [if_neg hq, if_neg (fun e => hq (this.1 e))]
  unfold Go.Proofs.YtcmhfeeocehlaaaGreatDoor.whole
  rw [hnu]
  exact h.runD (by omega)
theorem Sim.numE (h : Sim s o c) {a : Nat} (hn : isNum s a = true) (ha : a ≤ s.size) : numE c (o + a) = o + Go.Proofs.YtcmhfeeocehlaaaGreatDoor.numE s a := by
  have h2 := whole_lt hn
  have h3 := frac_ge s (Go.Proofs.YtcmhfeeocehlaaaGreatDoor.whole s a) h2.2
  unfold Go.Proofs.YtcmhfeeocehlaaaGreatDoor.numE
  rw [h.whole hn ha, h.frac h2.2, h.expo h3.2]
theorem Sim.numW (h : Sim s o c) {rb : ByteArray → Int} {a : Nat} (hn : isNum s a = true) (ha : a ≤ s.size) : numW rb c (o + a) = (Go.Proofs.YtcmhfeeocehlaaaGreatDoor.numW rb s a).sh o := by
  have h4 := numE_ge hn
  unfold Go.Proofs.YtcmhfeeocehlaaaGreatDoor.numW
  rw [h.numE hn ha, h.whole hn ha, h.ext _ _ h4.2, show o + Go.Proofs.YtcmhfeeocehlaaaGreatDoor.numE s a - (o + a) = Go.Proofs.YtcmhfeeocehlaaaGreatDoor.numE s a - a by omega]
  by_cases he : Go.Proofs.YtcmhfeeocehlaaaGreatDoor.numE s a = Go.Proofs.YtcmhfeeocehlaaaGreatDoor.whole s a
  · rw [if_pos he, if_pos (by omega)]
    split <;> rfl
  · rw [if_neg he, if_neg (by omega)]
    split <;> rfl
theorem Sim.esc (h : Sim s o c) {a : Nat} (ha : a < s.size) (hb : ¬ (escB s a).2 = 0) : escB c (o + a) = escB s a := by
  have hbd := esc_bound hb
  have hx : ∀ j, 1 ≤ j → j < (escB s a).2 → bt c (o + a + j) = bt s (a + j) := fun j _ h2 => by rw [show o + a + j = o + (a + j) by omega]; exact h.at' _ (by omega)
  have h1 := h.at' (a + 1) (by
    unfold escB at hb hbd
    by_cases h1 : a + 1 < s.size
    · exact h1
    · have hz : bt s (a + 1) = 0 := bt_end s (by omega)
      have hd : isD (bt s (a + 1)) = false := by rw [hz]; rfl
      rw [hz] at hb
      simp [isD_0] at hb)
  rw [show o + (a + 1) = o + a + 1 by omega] at h1
  by_cases hd : isD (bt s (a + 1)) = true ∧ isD (bt s (a + 2)) = true ∧ isD (bt s (a + 3)) = true
  · have l2 := lt_of_p isD_0 hd.2.1
    have l3 := lt_of_p isD_0 hd.2.2
    have h2 := h.at' (a + 2) l2
    have h3 := h.at' (a + 3) l3
    rw [show o + (a + 2) = o + a + 2 by omega] at h2
    rw [show o + (a + 3) = o + a + 3 by omega] at h3
    unfold escB
    rw [h1, h2, h3]
  · unfold escB at hb ⊢
    rw [h1]
    by_cases g1 : bt s (a + 1) = 110
    · rw [if_pos g1, if_pos g1]
    rw [if_neg g1] at hb ⊢
    rw [if_neg g1]
    by_cases g2 : bt s (a + 1) = 116
    · rw [if_pos g2, if_pos g2]
    rw [if_neg g2] at hb ⊢
    rw [if_neg g2]
    by_cases g3 : bt s (a + 1) = 92 ∨ bt s (a + 1) = 34
    · rw [if_pos g3, if_pos g3]
    rw [if_neg g3, if_neg hd] at hb
    exact absurd rfl hb
theorem Sim.qu (h : Sim s o c) : ∀ n a l l' e, s.size - a ≤ n → qu s a l = .ok l' e → Go.Proofs.YtcmhfeeocehlaaaGreatDoor.qu c (o + a) l = .ok l' (o + e) := by
  intro n
  induction n with
  | zero =>
    intro a l l' e hn hq
    rw [qu_end (by omega)] at hq
    cases hq
  | succ n ih =>
    intro a l l' e hn hq
    by_cases hlt : a < s.size
    · have hle := h.le
      rw [qu_step hlt] at hq
      rw [qu_step (s := c) (by omega), h.at' a hlt]
      by_cases g1 : bt s a = 34
      · rw [if_pos g1] at hq ⊢
        cases hq; rfl
      rw [if_neg g1] at hq ⊢
      by_cases g2 : bt s a = 92
      · rw [if_pos g2] at hq ⊢
        by_cases g3 : (escB s a).2 = 0
        · rw [if_pos g3] at hq; cases hq
        · rw [if_neg g3] at hq
          have hbd := esc_bound g3
          rw [h.esc hlt g3, if_neg g3, show o + a + (escB s a).2 = o + (a + (escB s a).2) by omega]
          exact ih _ _ _ _ (by omega) hq
      rw [if_neg g2] at hq ⊢
      by_cases g3 : bt s a < 32 ∨ 126 < bt s a
      · rw [if_pos g3] at hq; cases hq
      · rw [if_neg g3] at hq ⊢
        rw [show o + a + 1 = o + (a + 1) by omega]
        exact ih _ _ _ _ (by omega) hq
    · rw [qu_end (by omega)] at hq
      cases hq
theorem Sim.word (h : Sim s o c) {rb : ByteArray → Int} {a e : Nat} {t : Tk} (ha : a < s.size) (hw : wordW rb s a = .ok t e) : wordW rb c (o + a) = .ok { t with pl := o + t.pl } (o + e) := by
  have h1 : bt c (o + a + 1) = 34 ↔ bt s (a + 1) = 34 := by rw [show o + a + 1 = o + (a + 1) by omega]; exact h.is (by omega) (by decide) (by decide) (by decide)
  unfold wordW at hw ⊢
  rw [h.num (by omega), h.at' a ha]
  simp only [h1]
  split
  · rename_i g; rw [if_pos g] at hw
    rw [h.nameW (by omega), hw]; rfl
  · rename_i g; rw [if_neg g] at hw
    split
    · rename_i g; rw [if_pos g] at hw
      rw [h.numW g (by omega), hw]; rfl
    · rename_i g; rw [if_neg g] at hw
      split
      · rename_i g; rw [if_pos g] at hw
        unfold textW at hw ⊢
        cases hq : Go.Proofs.YtcmhfeeocehlaaaGreatDoor.qu s (a + 1) [] with
        | bad c p => rw [hq] at hw; cases hw
        | ok l e' =>
          rw [hq] at hw
          cases hw
          rw [show o + a + 1 = o + (a + 1) by omega, h.qu _ _ _ _ _ (Nat.le_refl _) hq]
      · rename_i g; rw [if_neg g] at hw
        split
        · rename_i g; rw [if_pos g] at hw
          unfold charW at hw ⊢
          cases hq : Go.Proofs.YtcmhfeeocehlaaaGreatDoor.qu s (a + 2) [] with
          | bad c p => rw [hq] at hw; cases hw
          | ok l e' =>
            rw [hq] at hw
            dsimp only at hw
            rw [show o + a + 2 = o + (a + 2) by omega, h.qu _ _ _ _ _ (Nat.le_refl _) hq]
            dsimp only
            split
            · rename_i g; rw [if_pos g] at hw; cases hw; rfl
            · rename_i g; rw [if_neg g] at hw; cases hw
        · rename_i g; rw [if_neg g] at hw
          split
          · rename_i g; rw [if_pos g] at hw
            rw [h.tyvW ha, hw]; rfl
          · rename_i g; rw [if_neg g] at hw
            split
            · rename_i g; rw [if_pos g] at hw
              rw [show o + a + 1 = o + (a + 1) by omega, h.stands (by omega), hw]; rfl
            · rename_i g; rw [if_neg g] at hw
              split
              · rename_i g; rw [if_pos g] at hw
                rw [h.symW (by omega), hw]; rfl
              · rename_i g; rw [if_neg g] at hw; cases hw

/-! ### all words -/
theorem al_same (rb : ByteArray → Int) (c : ByteArray) (k k' : Nat) (rs : List Tk) (hk : k ≤ c.size) (hk' : k' ≤ c.size) (h : bl c k = bl c k') : al rb c k rs = al rb c k' rs := by
  cases hb : bl c k with
  | none => rw [al_none hk hb, al_none hk' (h.symm.trans hb)]
  | some a =>
    have hb' := h.symm.trans hb
    by_cases he : a = c.size
    · subst he
      rw [al_end hk hb, al_end hk' hb']
    · cases hw : wordW rb c a with
      | bad x p => rw [al_bad hk hb he hw, al_bad hk' hb' he hw]
      | ok t e => rw [al_ok hk hb he hw, al_ok hk' hb' he hw]
theorem blF_idem (s : ByteArray) : ∀ n k a, s.size - k ≤ n → k ≤ s.size → bl s k = some a → bl s a = some a := by
  intro n
  induction n with
  | zero =>
    intro k a hn hk hb
    rw [bl_end (by omega)] at hb
    cases hb
    exact bl_end (by omega)
  | succ n ih =>
    intro k a hn hk hb
    by_cases hlt : k < s.size
    · cases h1 : isB (bt s k) with
      | true => rw [bl_blank h1] at hb; exact ih _ _ (by omega) (by omega) hb
      | false =>
        cases h2 : opens s k with
        | true =>
          cases h3 : rem s k 0 with
          | none => rw [bl_none h1 h2 h3] at hb; cases hb
          | some b =>
            have := rem_bound h3
            rw [bl_some h1 h2 h3] at hb
            exact ih _ _ (by omega) (by omega) hb
        | false =>
          have hb' := bl_other h1 h2
          rw [hb'] at hb
          cases hb
          exact hb'
    · rw [bl_end (by omega)] at hb
      cases hb
      exact bl_end (by omega)
theorem bl_idem {s : ByteArray} {k a : Nat} (hk : k ≤ s.size) (h : bl s k = some a) : bl s a = some a := blF_idem s _ k a (Nat.le_refl _) hk h
theorem bl_fix {s : ByteArray} {a : Nat} (ha : a < s.size) (h : bl s a = some a) : isB (bt s a) = false ∧ opens s a = false := by
  cases h1 : isB (bt s a) with
  | true =>
    rw [bl_blank h1] at h
    have := bl_bound (by omega) h
    omega
  | false =>
    cases h2 : opens s a with
    | true =>
      cases h3 : rem s a 0 with
      | none => rw [bl_none h1 h2 h3] at h; cases h
      | some b =>
        have hb := rem_bound h3
        rw [bl_some h1 h2 h3] at h
        have := bl_bound (by omega) h
        omega
    | false => exact ⟨rfl, rfl⟩
def Tk.sh (o : Nat) (t : Tk) : Tk := { t with pl := o + t.pl }
theorem Sim.al (h : Sim s o c) {rb : ByteArray → Int} : ∀ n k ts us rs, s.size - k ≤ n → k ≤ s.size → al rb s k ts = .ok us → ∃ vs, us = ts ++ vs ∧ Go.Proofs.YtcmhfeeocehlaaaGreatDoor.al rb c (o + k) rs = Go.Proofs.YtcmhfeeocehlaaaGreatDoor.al rb c (o + s.size) (rs ++ vs.map (Tk.sh o)) := by
  intro n
  induction n with
  | zero =>
    intro k ts us rs hn hk ha
    obtain rfl : k = s.size := by omega
    rw [al_end hk (bl_end (Nat.le_refl _))] at ha
    cases ha
    exact ⟨[], by simp, by simp⟩
  | succ n ih =>
    intro k ts us rs hn hk ha
    have hle := h.le
    cases hb : Go.Proofs.YtcmhfeeocehlaaaGreatDoor.bl s k with
    | none => rw [al_none hk hb] at ha; cases ha
    | some a =>
      have hab := bl_bound hk hb
      have hb2 := h.bl _ k a (Nat.le_refl _) hk hb
      by_cases he : a = s.size
      · subst he
        rw [al_end hk hb] at ha
        cases ha
        refine ⟨[], by simp, ?_⟩
        rw [List.map_nil, List.append_nil]
        exact al_same rb c _ _ rs (by omega) (by omega) hb2
      · have hlt : a < s.size := by omega
        cases hw : wordW rb s a with
        | bad c p => rw [al_bad hk hb he hw] at ha; cases ha
        | ok t e =>
          have hg := word_gt hlt hw
          rw [al_ok hk hb he hw] at ha
          obtain ⟨vs, h1, h2⟩ := ih e (ts ++ [t]) us (rs ++ [t.sh o]) (by omega) hg.2 ha
          refine ⟨t :: vs, by rw [h1, List.append_assoc]; rfl, ?_⟩
          have hbc : Go.Proofs.YtcmhfeeocehlaaaGreatDoor.bl c (o + a) = some (o + a) := by
            have hs : Go.Proofs.YtcmhfeeocehlaaaGreatDoor.bl s a = some a := bl_idem hk hb
            have h0 : isB (bt s a) = false ∧ Go.Proofs.YtcmhfeeocehlaaaGreatDoor.opens s a = false := bl_fix hlt hs
            exact bl_other (by rw [h.B hlt]; exact h0.1) (by rw [h.opens (by omega)]; exact h0.2)
          rw [al_ok (by omega) (hb2.trans hbc) (by omega) (h.word hlt hw)]
          rw [show rs ++ [{ t with pl := o + t.pl }] = rs ++ [t.sh o] from rfl, h2]
          simp
end Go.Proofs.YtcmhfeeocehlaaaGreatDoor
namespace Go.Proofs.YtcmhfeeocehlaaaGreatDoor
set_option linter.unusedSimpArgs false
set_option linter.unusedVariables false
open Go.RowKit Go.PlainAid

theorem app_list (a b : ByteArray) : (a ++ b).data.toList = a.data.toList ++ b.data.toList := by rw [ByteArray.data_append, Array.toList_append]
theorem gd_left (l r : List UInt8) (k : Nat) (h : k < l.length) : (l ++ r).getD k 0 = l.getD k 0 := by
  simp only [List.getD_eq_getElem?_getD, List.getElem?_append_left h]
theorem gd_right (l r : List UInt8) (k : Nat) (h : l.length ≤ k) : (l ++ r).getD k 0 = r.getD (k - l.length) 0 := by
  simp only [List.getD_eq_getElem?_getD, List.getElem?_append_right h]
theorem ext_of_list (s t : ByteArray) (h : s.data.toList = t.data.toList) : s = t := by
  apply ByteArray.ext
  exact Array.ext' h
theorem app_size (a b : ByteArray) : (a ++ b).size = a.size + b.size := by
  rw [Lib.size_eq, app_list, List.length_append, ← Lib.size_eq, ← Lib.size_eq]
/-- a text ahead of another one -/
theorem sim_left (a r : ByteArray) (hr : r.size = 0 ∨ bt r 0 = 10 ∨ bt r 0 = 32) : Sim a 0 (a ++ r) := by
  have hb : ∀ k, bt (a ++ r) k = if k < a.size then bt a k else bt r (k - a.size) := fun k => by
    rw [bt_list, app_list]
    by_cases hk : k < a.size
    · rw [if_pos hk, bt_list, gd_left _ _ _ (by rw [← Lib.size_eq]; exact hk)]
    · rw [if_neg hk, bt_list, gd_right _ _ _ (by rw [← Lib.size_eq]; omega), ← Lib.size_eq]
  refine ⟨fun k hk => ?_, ?_, ?_, fun i j hj => ?_⟩
  · rw [Nat.zero_add, hb, if_pos hk]
  · rw [app_size]; omega
  · rw [Nat.zero_add, hb, if_neg (by omega), Nat.sub_self]
    rcases hr with h | h | h
    · left; exact bt_end r (by omega)
    · right; left; exact h
    · right; right; exact h
  · rw [Nat.zero_add, Nat.zero_add]
    apply ext_of_list
    rw [ext_list, ext_list, app_list, List.take_append_of_le_length (by rw [← Lib.size_eq]; exact hj)]
/-- a text behind another one -/
theorem sim_right (l b r : ByteArray) (hr : r.size = 0 ∨ bt r 0 = 10 ∨ bt r 0 = 32) : Sim b l.size (l ++ b ++ r) := by
  have h := sim_left b r hr
  have hb : ∀ k, bt (l ++ b ++ r) (l.size + k) = bt (b ++ r) k := fun k => by
    rw [bt_list, bt_list, app_list, app_list, app_list, List.append_assoc, gd_right _ _ _ (by rw [← Lib.size_eq]; omega), ← Lib.size_eq, Nat.add_sub_cancel_left]
  refine ⟨fun k hk => ?_, ?_, ?_, fun i j hj => ?_⟩
  · rw [hb]; have := h.at' k hk; rwa [Nat.zero_add] at this
  · rw [app_size, app_size]; omega
  · rw [hb]; have := h.stop; rwa [Nat.zero_add] at this
  · apply ext_of_list
    have := congrArg (fun x => x.data.toList) (h.ext i j hj)
    simp only [Nat.zero_add] at this
    rw [← this, ext_list, ext_list, app_list, app_list, app_list, List.append_assoc]
    rw [List.take_append, List.drop_append, Lib.size_eq l]
    simp only [Nat.add_sub_cancel_left]
    rw [List.take_of_length_le (by omega), List.drop_of_length_le (by omega), List.nil_append, Nat.add_sub_cancel_left]
def nl : ByteArray := ⟨#[10]⟩
theorem lex_join (rb : ByteArray → Int) (a b : ByteArray) (x y : List Tk) (hx : lexW rb a = .ok x) (hy : lexW rb b = .ok y) (hs : a.size + b.size + 1 ≤ 65536) :
    lexW rb (a ++ nl ++ b) = .ok (x ++ y.map (Tk.sh (a.size + 1))) := by
  have e1 : a ++ nl ++ b = a ++ (nl ++ b) := ByteArray.append_assoc
  have hnl : nl.size = 1 := rfl
  have hz : (a ++ nl ++ b).size = a.size + 1 + b.size := by rw [app_size, app_size, hnl]
  have s1 : Sim a 0 (a ++ nl ++ b) := by
    rw [e1]
    refine sim_left a (nl ++ b) (.inr (.inl ?_))
    rw [bt_list, app_list]; rfl
  have s2 : Sim b (a.size + 1) (a ++ nl ++ b) := by
    have := sim_right (a ++ nl) b ⟨#[]⟩ (.inl rfl)
    have e : a ++ nl ++ b ++ ⟨#[]⟩ = a ++ nl ++ b := by
      apply ext_of_list
      rw [app_list]; simp
    rw [e, app_size, hnl] at this
    exact this
  rw [lexW_al rb a (by omega)] at hx
  rw [lexW_al rb b (by omega)] at hy
  rw [lexW_al rb _ (by omega)]
  obtain ⟨vs, h1, h2⟩ := s1.al _ 0 [] x [] (Nat.le_refl _) (Nat.zero_le _) hx
  obtain ⟨us, h3, h4⟩ := s2.al _ 0 [] y (vs.map (Tk.sh 0)) (Nat.le_refl _) (Nat.zero_le _) hy
  rw [List.nil_append] at h1 h3
  subst h1 h3
  rw [List.nil_append] at h2
  have hid0 : x.map (Tk.sh 0) = x := by
    conv => rhs; rw [← List.map_id x]
    apply List.map_congr_left
    intro t _
    simp [Tk.sh]
  rw [hid0] at h2 h4
  have hblk : bl (a ++ nl ++ b) (0 + a.size) = bl (a ++ nl ++ b) (a.size + 1 + 0) := by
    rw [Nat.zero_add, Nat.add_zero]
    apply bl_blank
    have : bt (a ++ nl ++ b) a.size = 10 := by
      rw [e1, bt_list, app_list, gd_right _ _ _ (by rw [← Lib.size_eq]; omega), ← Lib.size_eq, Nat.sub_self, app_list]; rfl
    rw [this]; rfl
  have h5 := al_same rb (a ++ nl ++ b) _ _ x (by omega) (by omega) hblk
  rw [show (0 : Nat) = 0 + 0 from rfl, h2, h5, h4]
  exact al_end (by omega) (by rw [← hz]; exact bl_end (Nat.le_refl _))
end Go.Proofs.YtcmhfeeocehlaaaGreatDoor
