/-
  A word's own text is cut into that word.
-/
import Derived.Test.YtcmhfeeocehlaaaGreatDoorSimA
namespace Go.Proofs.YtcmhfeeocehlaaaGreatDoor
set_option linter.unusedSimpArgs false
set_option linter.unusedVariables false
open Go.RowKit Go.PlainAid

theorem seg_seg (s : ByteArray) (a e i j : Nat) (hj : a + j ≤ e) : (s.extract a e).extract i j = s.extract (a + i) (a + j) := by
  apply ext_of_list
  rw [ext_list, ext_list, ext_list]
  apply List.ext_getElem?
  intro k
  simp only [List.getElem?_drop, List.getElem?_take]
  by_cases h : i + k < j
  · rw [if_pos h, if_pos (by omega), if_pos (by omega), show a + (i + k) = a + i + k by omega]
  · rw [if_neg h, if_neg (by omega)]
/-- x is the piece of s from a to e -/
structure Pc (s : ByteArray) (a e : Nat) (x : ByteArray) : Prop where
  lt : a < e
  le : e ≤ s.size
  size : x.size = e - a
  at' : ∀ k, a + k < e → bt x k = bt s (a + k)
  ext : ∀ i j, a + j ≤ e → x.extract i j = s.extract (a + i) (a + j)
  all : x.extract 0 (e - a) = x
theorem pc_of (s : ByteArray) (a e : Nat) (h1 : a < e) (h2 : e ≤ s.size) : Pc s a e (s.extract a e) :=
  ⟨h1, h2, ext_size2 s a e h2, fun k hk => by rw [bt_list, bt_list, seg_getD s a e k hk], fun i j hj => seg_seg s a e i j hj, by rw [seg_seg s a e 0 (e - a) (by omega), show a + (e - a) = e by omega]; rfl⟩
variable {s x : ByteArray} {a e : Nat}
theorem Pc.up (h : Pc s a e x) {k : Nat} (hk : bt x k ≠ 0) : a + k < e ∧ bt x k = bt s (a + k) := by
  have := lt_of_bt hk
  have hz := h.size
  exact ⟨by omega, h.at' k (by omega)⟩
theorem Pc.stop (h : Pc s a e x) : bt x (e - a) = 0 := bt_end x (by rw [h.size]; exact Nat.le_refl _)
theorem Pc.run (h : Pc s a e x) {p : Int → Bool} (h0 : p 0 = false) : ∀ n k, e - a - k ≤ n → k ≤ e - a → Go.Proofs.YtcmhfeeocehlaaaGreatDoor.run p s (a + k) ≤ e → Go.Proofs.YtcmhfeeocehlaaaGreatDoor.run p x k = Go.Proofs.YtcmhfeeocehlaaaGreatDoor.run p s (a + k) - a := by
  intro n
  induction n with
  | zero =>
    intro k hn hk hr
    have hlt := h.lt
    have hg := run_ge p s (a + k)
    rw [run_end (s := x) (by rw [h.size]; omega)]
    omega
  | succ n ih =>
    intro k hn hk hr
    have hlt := h.lt
    have hle := h.le
    have hg := run_ge p s (a + k)
    by_cases hke : k = e - a
    · rw [run_end (s := x) (by rw [h.size]; omega)]
      omega
    · have hb := h.at' k (by omega)
      cases hv : p (bt s (a + k)) with
      | false =>
        rw [run_no hv, run_no (by rw [hb, hv])]
        omega
      | true =>
        rw [run_yes (s := s) (by omega) hv] at hr ⊢
        rw [run_yes (s := x) (by rw [h.size]; omega) (by rw [hb, hv])]
        exact ih (k + 1) (by omega) (by omega) hr
theorem Pc.runAt (h : Pc s a e x) {p : Int → Bool} (h0 : p 0 = false) {q : Nat} (hq : a ≤ q) (hr : Go.Proofs.YtcmhfeeocehlaaaGreatDoor.run p s q ≤ e) : Go.Proofs.YtcmhfeeocehlaaaGreatDoor.run p x (q - a) = Go.Proofs.YtcmhfeeocehlaaaGreatDoor.run p s q - a := by
  have hg := run_ge p s q
  have := h.run h0 _ (q - a) (Nat.le_refl _) (by omega) (by rw [show a + (q - a) = q by omega]; exact hr)
  rw [show a + (q - a) = q by omega] at this
  exact this
theorem Pc.atQ (h : Pc s a e x) {q : Nat} (hq : a ≤ q) (hr : q < e) : bt x (q - a) = bt s q := by
  have := h.at' (q - a) (by omega)
  rwa [show a + (q - a) = q by omega] at this
theorem Pc.extQ (h : Pc s a e x) {q r : Nat} (hq : a ≤ q) (hr : r ≤ e) (hqr : q ≤ r) : x.extract (q - a) (r - a) = s.extract q r := by
  have := h.ext (q - a) (r - a) (by omega)
  rwa [show a + (q - a) = q by omega, show a + (r - a) = r by omega] at this
theorem Pc.nm (h : Pc s a e x) : ∀ n q, e - q ≤ n → a ≤ q → q ≤ e → Go.Proofs.YtcmhfeeocehlaaaGreatDoor.nm s q = .inr e → Go.Proofs.YtcmhfeeocehlaaaGreatDoor.nm x (q - a) = .inr (e - a) := by
  have hle := h.le
  have hlt := h.lt
  intro n
  induction n with
  | zero =>
    intro q hn hq hqe hm
    obtain rfl : q = e := by omega
    exact nm_stop (fun c => by rw [h.stop] at c; exact absurd c.1 (by decide))
  | succ n ih =>
    intro q hn hq hqe hm
    by_cases hy : bt s q = 46 ∧ isL (bt s (q + 1)) = true
    · cases hv : resv (s.extract (q + 1) (Go.Proofs.YtcmhfeeocehlaaaGreatDoor.run isN s (q + 1))).data.toList with
      | true => rw [nm_bad hy hv] at hm; cases hm
      | false =>
        rw [nm_go hy hv] at hm
        have hq1 := lt_of_p (p := isL) isL_0 hy.2
        have hrl := run_le isN s (q + 1) (by omega)
        have hge := nmF_ge s _ _ _ hrl hm
        have hisN : isN (bt s (q + 1)) = true := by unfold isN; rw [hy.2]; rfl
        have hrg := run_gt isN_0 hisN
        have b0 := h.atQ (q := q) hq (by omega)
        have b1 := h.atQ (q := q + 1) (by omega) (by omega)
        rw [show q + 1 - a = q - a + 1 by omega] at b1
        have hy' : bt x (q - a) = 46 ∧ isL (bt x (q - a + 1)) = true := by rw [b0, b1]; exact hy
        have hr := h.runAt isN_0 (q := q + 1) (by omega) hge.1
        rw [show q + 1 - a = q - a + 1 by omega] at hr
        have hx := h.extQ (q := q + 1) (r := Go.Proofs.YtcmhfeeocehlaaaGreatDoor.run isN s (q + 1)) (by omega) hge.1 (by omega)
        rw [show q + 1 - a = q - a + 1 by omega] at hx
        rw [nm_go hy' (by rw [hr, hx, hv]), hr]
        exact ih _ (by omega) (by omega) hge.1 hm
    · rw [nm_stop hy] at hm
      cases hm
      exact nm_stop (fun c => by rw [h.stop] at c; exact absurd c.1 (by decide))

theorem stands_ok {k : Int} {t : Tk} {b e' : Nat} (h : stands k s a b = .ok t e') : t = ⟨k, s.extract a b, 0, 0, 0, a⟩ ∧ e' = b := by
  unfold stands at h; cases h; exact ⟨rfl, rfl⟩
theorem limd_ok {k : Int} {t : Tk} {b e' m : Nat} (h : limd k s a b m = .ok t e') : ¬ m < b - a ∧ t = ⟨k, s.extract a b, 0, 0, 0, a⟩ ∧ e' = b := by
  unfold limd at h
  split at h
  · cases h
  · rename_i hm; exact ⟨hm, stands_ok h⟩
theorem Pc.stands0 (h : Pc s a e x) (k : Int) : stands k x 0 (e - a) = .ok ⟨k, x, 0, 0, 0, 0⟩ (e - a) := by
  unfold stands
  rw [h.all]
theorem Pc.limd0 (h : Pc s a e x) (k : Int) {m : Nat} (hm : ¬ m < e - a) : limd k x 0 (e - a) m = .ok ⟨k, x, 0, 0, 0, 0⟩ (e - a) := by
  unfold limd
  rw [if_neg (by omega)]
  exact h.stands0 k
theorem Pc.b0 (h : Pc s a e x) : bt x 0 = bt s a := h.at' 0 h.lt
theorem Pc.notNum (h : Pc s a e x) (hn : isNum s a = false) : isNum x 0 = false := by
  cases hx : isNum x 0 with
  | false => rfl
  | true =>
    exfalso
    unfold isNum at hx hn
    rw [h.b0] at hx
    rw [Bool.or_eq_true] at hx
    rcases hx with g | g
    · rw [g] at hn; simp at hn
    · rw [Bool.and_eq_true] at g
      have hne : bt x 1 ≠ 0 := fun e0 => by have := g.2; rw [Nat.zero_add, e0] at this; exact absurd this (by decide)
      have := h.up hne
      rw [g.1, ← this.2] at hn
      have g2 := g.2
      rw [Nat.zero_add] at g2
      rw [g2] at hn
      simp at hn
theorem Pc.notChar (h : Pc s a e x) (hn : ¬ (bt s a = 35 ∧ bt s (a + 1) = 34)) : ¬ (bt x 0 = 35 ∧ bt x (0 + 1) = 34) := by
  rintro ⟨g1, g2⟩
  rw [Nat.zero_add] at g2
  have := h.up (k := 1) (by rw [g2]; decide)
  exact hn ⟨by rw [← h.b0, g1], by rw [← this.2, g2]⟩
theorem Pc.num (h : Pc s a e x) (hn : isNum s a = true) (he : numE s a = e) : isNum x 0 = true ∧ whole x 0 = whole s a - a ∧ numE x 0 = e - a := by
  obtain ⟨n1, n2, n3, n4⟩ := nuD_lt hn
  obtain ⟨w1, w2⟩ := whole_lt hn
  have f1 := frac_ge s (whole s a) w2
  have x1 := expo_ge s (frac s (whole s a)) f1.2
  have hfe : frac s (whole s a) ≤ e := by rw [← he]; exact x1.1
  have hlt := h.lt
  have hNum : isNum x 0 = true := by
    unfold isNum at hn ⊢
    rw [h.b0]
    rw [Bool.or_eq_true] at hn
    rcases hn with g | g
    · rw [g]; rfl
    · rw [Bool.and_eq_true] at g
      have hb126 : bt s a = 126 := beq_iff_eq.1 g.1
      have hnu : nuD s a = a + 1 := by unfold nuD; rw [if_pos hb126]
      have := h.at' 1 (by omega)
      rw [Nat.zero_add, this, g.1, g.2]; simp
  have hnu : nuD x 0 = nuD s a - a := by
    unfold nuD
    rw [h.b0]
    split <;> omega
  have hwh : whole x 0 = whole s a - a := by
    have : whole x 0 = Go.Proofs.YtcmhfeeocehlaaaGreatDoor.run isD x (nuD x 0) := rfl
    rw [this, hnu]
    exact h.runAt isD_0 n3 (by show whole s a ≤ e; omega)
  have hfr : frac x (whole s a - a) = frac s (whole s a) - a := by
    by_cases hc : bt s (whole s a) = 46 ∧ isD (bt s (whole s a + 1)) = true
    · have ef : frac s (whole s a) = Go.Proofs.YtcmhfeeocehlaaaGreatDoor.run isD s (whole s a + 1) := by unfold frac; rw [if_pos hc]
      have hrg := run_gt isD_0 hc.2
      have b0 := h.atQ (q := whole s a) (by omega) (by omega)
      have b1 := h.atQ (q := whole s a + 1) (by omega) (by omega)
      rw [show whole s a + 1 - a = whole s a - a + 1 by omega] at b1
      have hr := h.runAt isD_0 (q := whole s a + 1) (by omega) (by omega)
      rw [show whole s a + 1 - a = whole s a - a + 1 by omega] at hr
      have hc' : bt x (whole s a - a) = 46 ∧ isD (bt x (whole s a - a + 1)) = true := by rw [b0, b1]; exact hc
      rw [ef, ← hr]
      unfold frac
      rw [if_pos hc']
    · have ef : frac s (whole s a) = whole s a := by unfold frac; rw [if_neg hc]
      rw [ef]
      unfold frac
      rw [if_neg]
      rintro ⟨g1, g2⟩
      have u1 := h.up (k := whole s a - a) (by rw [g1]; decide)
      have u2 := h.up (k := whole s a - a + 1) (fun e0 => by rw [e0] at g2; exact absurd g2 (by decide))
      rw [show a + (whole s a - a) = whole s a by omega] at u1
      rw [show a + (whole s a - a + 1) = whole s a + 1 by omega] at u2
      exact hc ⟨by rw [← u1.2, g1], by rw [← u2.2, g2]⟩
  refine ⟨hNum, hwh, ?_⟩
  have en : numE x 0 = expo x (frac x (whole x 0)) := rfl
  rw [en, hwh, hfr]
  have ee : expo s (frac s (whole s a)) = e := he
  obtain ⟨f, hf⟩ : ∃ f, frac s (whole s a) = f := ⟨_, rfl⟩
  rw [hf] at ee hfe f1 ⊢
  by_cases hc : bt s f = 101 ∧ isD (bt s (exD s f)) = true
  · have ef : expo s f = Go.Proofs.YtcmhfeeocehlaaaGreatDoor.run isD s (exD s f) := by unfold expo; rw [if_pos hc]
    have hrg := run_gt isD_0 hc.2
    have hex : f + 1 ≤ exD s f ∧ exD s f ≤ f + 2 := by unfold exD; split <;> omega
    have b0 := h.atQ (q := f) (by omega) (by omega)
    have b1 := h.atQ (q := f + 1) (by omega) (by omega)
    rw [show f + 1 - a = f - a + 1 by omega] at b1
    have hex' : exD x (f - a) = exD s f - a := by
      unfold exD
      rw [b1]
      split <;> omega
    have b2 := h.atQ (q := exD s f) (by omega) (by omega)
    have hr := h.runAt isD_0 (q := exD s f) (by omega) (by omega)
    have hc' : bt x (f - a) = 101 ∧ isD (bt x (exD x (f - a))) = true := by rw [b0, hex', b2]; exact hc
    rw [← ee, ef, ← hr, ← hex']
    unfold expo
    rw [if_pos hc']
  · have ef : expo s f = f := by unfold expo; rw [if_neg hc]
    have hfe' : f = e := by omega
    unfold expo
    rw [hfe', if_neg (fun c => by rw [h.stop] at c; exact absurd c.1 (by decide))]

theorem word_own {rb : ByteArray → Int} {s : ByteArray} {a e : Nat} {t : Tk} (ha : a < s.size) (hw : wordW rb s a = .ok t e) (h6 : t.kind ≠ 6) (h7 : t.kind ≠ 7) :
    t.text = s.extract a e ∧ wordW rb (s.extract a e) 0 = .ok { t with pl := 0 } (e - a) := by
  have hg := word_gt ha hw
  have h := pc_of s a e hg.1 hg.2
  have hx0 := h.all
  obtain ⟨x, hx⟩ : ∃ x, s.extract a e = x := ⟨_, rfl⟩
  rw [hx] at h
  rw [hx] at hx0
  unfold wordW at hw
  have hbr : ∀ y, (if isL (bt s a) = true then nameW x 0 else if isNum x 0 = true then numW rb x 0 else if bt s a = 34 then textW x 0 else if bt s a = 35 ∧ bt x (0 + 1) = 34 then charW x 0
      else if bt s a = 39 then tyvW x 0 else if isO (bt s a) = true then stands 8 x 0 (0 + 1) else if isS (bt s a) = true then symW x 0 else .bad 30 0) = y → wordW rb x 0 = y := fun y hy => by
    unfold wordW
    rw [h.b0]
    exact hy
  have hnc := h.notChar
  rw [h.b0] at hnc
  by_cases c1 : isL (bt s a) = true
  · rw [if_pos c1] at hw hbr
    rw [nameW_eq] at hw
    have hrl := run_le isN s a (by omega)
    split at hw
    · rename_i hres
      obtain ⟨rfl, rfl⟩ := stands_ok hw
      refine ⟨rfl, ?_⟩
      rw [hx]
      apply hbr
      have hr := h.runAt isN_0 (Nat.le_refl a) (Nat.le_refl _)
      rw [Nat.sub_self] at hr
      rw [nameW_eq, hr, hx0, ← hx, if_pos hres, hx, h.stands0 8]
    · rename_i hres
      cases hm : nm s (run isN s a) with
      | inl p => rw [hm] at hw; cases hw
      | inr e' =>
        rw [hm] at hw
        obtain ⟨hlim, rfl, rfl⟩ := limd_ok hw
        refine ⟨rfl, ?_⟩
        rw [hx]
        apply hbr
        have hge := nmF_ge s _ _ _ hrl hm
        have hr := h.runAt isN_0 (Nat.le_refl a) hge.1
        rw [Nat.sub_self] at hr
        have hxr := h.extQ (Nat.le_refl a) hge.1 (run_ge isN s a)
        rw [Nat.sub_self] at hxr
        have hnm := h.nm _ _ (Nat.le_refl _) (run_ge isN s a) hge.1 hm
        rw [nameW_eq, hr, hxr, if_neg hres, hnm]
        exact h.limd0 1 hlim
  · rw [if_neg c1] at hw hbr
    cases c2 : isNum s a with
    | true =>
      rw [c2, if_pos rfl] at hw
      have hee : numE s a = e := by
        unfold numW at hw
        split at hw
        · split at hw
          · cases hw
          · cases hw; rfl
        · split at hw
          · cases hw
          · cases hw; rfl
      obtain ⟨k1, k2, k3⟩ := h.num c2 hee
      obtain ⟨v1, v2⟩ := whole_lt c2
      obtain ⟨n1, n2, n3, n4⟩ := nuD_lt c2
      rw [k1, if_pos rfl] at hbr
      unfold numW at hw
      rw [hee, hx] at hw
      have hcond : (e - a = whole s a - a) ↔ (e = whole s a) := by omega
      have hgoal : numW rb x 0 = if e = whole s a then (if 2000 < e - a then .bad 32 0 else .ok ⟨4, x, zof x.data.toList, 0, 0, 0⟩ (e - a)) else if 100 < e - a then .bad 32 0 else .ok ⟨5, x, 0, rb x, 0, 0⟩ (e - a) := by
        unfold numW
        rw [k3, k2, hx0]
        simp only [hcond, Nat.sub_zero]
      split at hw
      · rename_i q1
        split at hw
        · cases hw
        · rename_i q2
          cases hw
          refine ⟨hx.symm, ?_⟩
          rw [hx]
          apply hbr
          rw [hgoal, if_pos q1, if_neg q2]
      · rename_i q1
        split at hw
        · cases hw
        · rename_i q2
          cases hw
          refine ⟨hx.symm, ?_⟩
          rw [hx]
          apply hbr
          rw [hgoal, if_neg q1, if_neg q2]
    | false =>
      rw [c2, if_neg (by decide)] at hw
      rw [h.notNum c2, if_neg (by decide)] at hbr
      by_cases c3 : bt s a = 34
      · rw [if_pos c3] at hw
        unfold textW at hw
        split at hw
        · cases hw
        · cases hw; exact absurd rfl h7
      · rw [if_neg c3] at hw hbr
        by_cases c4 : bt s a = 35 ∧ bt s (a + 1) = 34
        · rw [if_pos c4] at hw
          unfold charW at hw
          split at hw
          · cases hw
          · split at hw
            · cases hw; exact absurd rfl h6
            · cases hw
        · rw [if_neg c4] at hw
          rw [if_neg (hnc c4)] at hbr
          by_cases c5 : bt s a = 39
          · rw [if_pos c5] at hw hbr
            unfold tyvW at hw
            split at hw
            · rename_i hL
              obtain ⟨hlim, rfl, rfl⟩ := limd_ok hw
              refine ⟨rfl, ?_⟩
              rw [hx]
              apply hbr
              have hisN : isN (bt s (tyL s a)) = true := by unfold isN; rw [hL]; rfl
              have hrg := run_gt isN_0 hisN
              have hty : a + 1 ≤ tyL s a ∧ tyL s a ≤ a + 2 := by unfold tyL; split <;> omega
              have b1 := h.at' 1 (by omega)
              have hty' : tyL x 0 = tyL s a - a := by
                unfold tyL
                rw [Nat.zero_add, b1]
                split <;> omega
              have b2 := h.atQ (q := tyL s a) (by omega) (by omega)
              have hr := h.runAt isN_0 (q := tyL s a) (by omega) (Nat.le_refl _)
              unfold tyvW
              rw [hty', b2, if_pos hL, hr]
              exact h.limd0 3 hlim
            · cases hw
          · rw [if_neg c5] at hw hbr
            by_cases c6 : isO (bt s a) = true
            · rw [if_pos c6] at hw hbr
              obtain ⟨rfl, rfl⟩ := stands_ok hw
              refine ⟨rfl, ?_⟩
              rw [hx]
              apply hbr
              have := h.stands0 8
              rw [show a + 1 - a = 0 + 1 by omega] at this ⊢
              exact this
            · rw [if_neg c6] at hw hbr
              by_cases c7 : isS (bt s a) = true
              · rw [if_pos c7] at hw hbr
                unfold symW at hw
                have hrg := run_gt isS_0 c7
                split at hw
                · rename_i hres
                  obtain ⟨rfl, rfl⟩ := stands_ok hw
                  refine ⟨rfl, ?_⟩
                  rw [hx]
                  apply hbr
                  have hr := h.runAt isS_0 (Nat.le_refl a) (Nat.le_refl _)
                  rw [Nat.sub_self] at hr
                  unfold symW
                  rw [hr, hx0, ← hx, if_pos hres, hx, h.stands0 8]
                · rename_i hres
                  obtain ⟨hlim, rfl, rfl⟩ := limd_ok hw
                  refine ⟨rfl, ?_⟩
                  rw [hx]
                  apply hbr
                  have hr := h.runAt isS_0 (Nat.le_refl a) (Nat.le_refl _)
                  rw [Nat.sub_self] at hr
                  unfold symW
                  rw [hr, hx0, ← hx, if_neg hres, hx]
                  exact h.limd0 2 hlim
              · rw [if_neg c7] at hw
                cases hw
end Go.Proofs.YtcmhfeeocehlaaaGreatDoor
namespace Go.Proofs.YtcmhfeeocehlaaaGreatDoor
set_option linter.unusedSimpArgs false
set_option linter.unusedVariables false
open Go.RowKit Go.PlainAid

/-- a blank -/
def sp : ByteArray := ⟨#[32]⟩
theorem lex_join_sp (rb : ByteArray → Int) (a b : ByteArray) (x y : List Tk) (hx : lexW rb a = .ok x) (hy : lexW rb b = .ok y) (hs : a.size + b.size + 1 ≤ 65536) :
    lexW rb (a ++ sp ++ b) = .ok (x ++ y.map (Tk.sh (a.size + 1))) := by
  have e1 : a ++ sp ++ b = a ++ (sp ++ b) := ByteArray.append_assoc
  have hnl : sp.size = 1 := rfl
  have hz : (a ++ sp ++ b).size = a.size + 1 + b.size := by rw [app_size, app_size, hnl]
  have s1 : Sim a 0 (a ++ sp ++ b) := by
    rw [e1]
    refine sim_left a (sp ++ b) (.inr (.inr ?_))
    rw [bt_list, app_list]; rfl
  have s2 : Sim b (a.size + 1) (a ++ sp ++ b) := by
    have := sim_right (a ++ sp) b ⟨#[]⟩ (.inl rfl)
    have e : a ++ sp ++ b ++ ⟨#[]⟩ = a ++ sp ++ b := by
      apply ext_of_list
      rw [app_list]; simp
    rw [e, app_size, hnl] at this
    exact this
  rw [lexW_al rb a (by omega)] at hx
  rw [lexW_al rb b (by omega)] at hy
  rw [lexW_al rb _ (by omega)]
  obtain ⟨vs, h1, h2⟩ := s1.al _ 0 [] x [] (Nat.le_refl _) (Nat.zero_le _) hx
  obtain ⟨us, h3, h4⟩ := s2.al _ 0 [] y (vs.map (Tk.sh 0)) (Nat.le_refl _) (Nat.zero_le _) hy
  rw [List.nil_append] at h1 h3
  subst h1 h3
  rw [List.nil_append] at h2
  have hid0 : x.map (Tk.sh 0) = x := by
    conv => rhs; rw [← List.map_id x]
    apply List.map_congr_left
    intro t _
    simp [Tk.sh]
  rw [hid0] at h2 h4
  have hblk : bl (a ++ sp ++ b) (0 + a.size) = bl (a ++ sp ++ b) (a.size + 1 + 0) := by
    rw [Nat.zero_add, Nat.add_zero]
    apply bl_blank
    have : bt (a ++ sp ++ b) a.size = 32 := by
      rw [e1, bt_list, app_list, gd_right _ _ _ (by rw [← Lib.size_eq]; omega), ← Lib.size_eq, Nat.sub_self, app_list]; rfl
    rw [this]; rfl
  have h5 := al_same rb (a ++ sp ++ b) _ _ x (by omega) (by omega) hblk
  rw [show (0 : Nat) = 0 + 0 from rfl, h2, h5, h4]
  exact al_end (by omega) (by rw [← hz]; exact bl_end (Nat.le_refl _))

/-- its text is cut into it -/
def Self (rb : ByteArray → Int) (t : Tk) : Prop := 0 < t.text.size ∧ t.text.size ≤ 65536 ∧ lexW rb t.text = .ok [{ t with pl := 0 }]
theorem word_self {rb : ByteArray → Int} {s : ByteArray} {a e : Nat} {t : Tk} (hs : s.size ≤ 65536) (ha : a < s.size) (hb : bl s a = some a) (hw : wordW rb s a = .ok t e) (h6 : t.kind ≠ 6) (h7 : t.kind ≠ 7) : Self rb t := by
  obtain ⟨h1, h2⟩ := word_own ha hw h6 h7
  have hg := word_gt ha hw
  have h := pc_of s a e hg.1 hg.2
  obtain ⟨f1, f2⟩ := bl_fix ha hb
  rw [← h1] at h h2
  have hz := h.size
  refine ⟨by omega, by omega, ?_⟩
  rw [lexW_al rb _ (by omega)]
  have g1 : isB (bt t.text 0) = false := by rw [h.b0]; exact f1
  have g2 : opens t.text 0 = false := by
    cases ho : opens t.text 0 with
    | false => rfl
    | true =>
      exfalso
      unfold opens at ho f2
      simp only [Bool.and_eq_true, beq_iff_eq, Nat.zero_add] at ho
      have u := h.up (k := 1) (by rw [ho.2]; decide)
      rw [← h.b0, ← u.2, ho.1, ho.2] at f2
      exact absurd f2 (by decide)
  rw [al_ok (Nat.zero_le _) (bl_other g1 g2) (by omega) h2, ← hz, List.nil_append]
  exact al_end (Nat.le_refl _) (bl_end (Nat.le_refl _))
theorem al_self {rb : ByteArray → Int} {s : ByteArray} (hs : s.size ≤ 65536) : ∀ n k ts us, s.size - k ≤ n → k ≤ s.size → (∀ t ∈ ts, t.kind ≠ 6 → t.kind ≠ 7 → Self rb t) → al rb s k ts = .ok us → ∀ t ∈ us, t.kind ≠ 6 → t.kind ≠ 7 → Self rb t := by
  intro n
  induction n with
  | zero =>
    intro k ts us hn hk hp ha
    obtain rfl : k = s.size := by omega
    rw [al_end hk (bl_end (Nat.le_refl _))] at ha
    cases ha
    exact hp
  | succ n ih =>
    intro k ts us hn hk hp ha
    cases hb : bl s k with
    | none => rw [al_none hk hb] at ha; cases ha
    | some a =>
      have hab := bl_bound hk hb
      by_cases he : a = s.size
      · subst he
        rw [al_end hk hb] at ha
        cases ha
        exact hp
      · cases hw : wordW rb s a with
        | bad c' p' => rw [al_bad hk hb he hw] at ha; cases ha
        | ok t e =>
          rw [al_ok hk hb he hw] at ha
          have hg := word_gt (by omega) hw
          refine ih e (ts ++ [t]) us (by omega) hg.2 (fun u hu => ?_) ha
          rcases List.mem_append.1 hu with hu | hu
          · exact hp u hu
          · rw [List.mem_singleton.1 hu]
            exact word_self hs (by omega) (bl_idem hk hb) hw
theorem lexW_self {rb : ByteArray → Int} {s : ByteArray} {x : List Tk} (h : lexW rb s = .ok x) : ∀ t ∈ x, t.kind ≠ 6 → t.kind ≠ 7 → Self rb t := by
  by_cases hl : 65536 < s.size
  · rw [lexW_long rb s hl] at h; cases h
  rw [lexW_al rb s hl] at h
  exact al_self (by omega) _ 0 [] x (Nat.le_refl _) (Nat.zero_le _) (fun t ht => by cases ht) h

/-- the words' texts, one blank between each two -/
def sprO (ts : List Tk) : Option ByteArray := ts.foldl (fun s t => some (match s with | none => t.text | some s => s ++ sp ++ t.text)) none
def spr (ts : List Tk) : ByteArray := (sprO ts).getD ⟨#[]⟩
theorem spr_nil : spr [] = ⟨#[]⟩ := rfl
theorem sprO_snoc (ts : List Tk) (t : Tk) : sprO (ts ++ [t]) = some (match sprO ts with | none => t.text | some s => s ++ sp ++ t.text) := by
  unfold sprO; rw [List.foldl_append]; rfl
theorem sprO_some (ts : List Tk) (h : ts ≠ []) : sprO ts = some (spr ts) := by
  rcases List.eq_nil_or_concat ts with e | ⟨l, t, e⟩
  · exact absurd e h
  · rw [List.concat_eq_append] at e
    subst e
    unfold spr
    rw [sprO_snoc]; rfl
theorem spr_one (t : Tk) : spr [t] = t.text := rfl
theorem spr_snoc (ts : List Tk) (t : Tk) (h : ts ≠ []) : spr (ts ++ [t]) = spr ts ++ sp ++ t.text := by
  unfold spr
  rw [sprO_snoc, sprO_some ts h]; rfl
theorem spr_size (ts : List Tk) (t : Tk) : (spr ts).size ≤ (spr (ts ++ [t])).size := by
  by_cases h : ts = []
  · subst h; rw [spr_nil]; exact Nat.zero_le _
  · rw [spr_snoc ts t h, app_size, app_size]; omega
theorem spr_take (ts : List Tk) (k : Nat) : (spr (ts.take k)).size ≤ (spr ts).size := by
  by_cases hk : k < ts.length
  · have : ∀ n k, ts.length - k ≤ n → (spr (ts.take k)).size ≤ (spr ts).size := by
      intro n
      induction n with
      | zero =>
        intro k hn
        rw [List.take_of_length_le (by omega)]
        exact Nat.le_refl _
      | succ n ih =>
        intro k hn
        by_cases hk : k < ts.length
        · refine Nat.le_trans ?_ (ih (k + 1) (by omega))
          rw [List.take_add_one, List.getElem?_eq_getElem hk]
          exact spr_size _ _
        · rw [List.take_of_length_le (by omega)]
          exact Nat.le_refl _
    exact this _ k (Nat.le_refl _)
  · rw [List.take_of_length_le (by omega)]
    exact Nat.le_refl _
/-- the same word, but for its place -/
def Alike (t u : Tk) : Prop := u.kind = t.kind ∧ u.text = t.text ∧ u.z = t.z ∧ u.bits = t.bits
theorem spread {rb : ByteArray → Int} : ∀ (n : Nat) (ts : List Tk), ts.length = n → (∀ t ∈ ts, Self rb t) → (spr ts).size ≤ 65536 →
    ∃ us, lexW rb (spr ts) = .ok us ∧ us.length = ts.length ∧ ∀ (i : Nat) (t : Tk), ts[i]? = some t → ∃ u, us[i]? = some u ∧ Alike t u := by
  intro n
  induction n with
  | zero =>
    intro ts hn _ _
    obtain rfl := List.length_eq_zero_iff.1 hn
    refine ⟨[], ?_, rfl, fun i t h => by simp at h⟩
    rw [spr_nil, lexW_al rb _ (by decide)]
    exact al_end (Nat.le_refl _) (bl_end (Nat.le_refl _))
  | succ n ih =>
    intro ts hn hp hz
    rcases List.eq_nil_or_concat ts with e | ⟨l, t, e⟩
    · subst e; cases hn
    rw [List.concat_eq_append] at e
    subst e
    have hl : l.length = n := by simpa using hn
    obtain ⟨t0, t1, t2⟩ := hp t (by simp)
    by_cases h0 : l = []
    · subst h0
      refine ⟨_, t2, rfl, fun i u h => ?_⟩
      cases i with
      | zero => simp only [List.nil_append, List.getElem?_cons_zero, Option.some.injEq] at h; subst h; exact ⟨_, rfl, rfl, rfl, rfl, rfl⟩
      | succ i => simp at h
    · have hsz := spr_size l t
      obtain ⟨us, h1, h2, h3⟩ := ih l hl (fun u hu => hp u (by simp [hu])) (by omega)
      rw [spr_snoc l t h0, app_size, app_size, show sp.size = 1 from rfl] at hz
      have hj := lex_join_sp rb (spr l) t.text us _ h1 t2 (by omega)
      rw [spr_snoc l t h0]
      refine ⟨_, hj, by simp [h2], fun i u h => ?_⟩
      by_cases hi : i < l.length
      · rw [List.getElem?_append_left hi] at h
        obtain ⟨v, hv, ha⟩ := h3 i u h
        exact ⟨v, by rw [List.getElem?_append_left (by omega)]; exact hv, ha⟩
      · rw [List.getElem?_append_right (by omega)] at h
        obtain ⟨m, hm⟩ : ∃ m, i - l.length = m := ⟨_, rfl⟩
        rw [hm] at h
        cases m with
        | zero =>
          simp only [List.getElem?_cons_zero, Option.some.injEq] at h
          subst h
          exact ⟨Tk.sh ((spr l).size + 1) { t with pl := 0 }, by rw [List.getElem?_append_right (by omega), h2, hm]; rfl, rfl, rfl, rfl, rfl⟩
        | succ m => simp at h
end Go.Proofs.YtcmhfeeocehlaaaGreatDoor
