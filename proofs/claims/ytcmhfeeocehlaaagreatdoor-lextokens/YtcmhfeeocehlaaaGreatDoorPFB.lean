/-
  strconv.ParseFloat: decimal: how it lies in memory; trim.
-/
import Derived.Test.YtcmhfeeocehlaaaGreatDoorPFA
import Derived.Deep.DeepCutAuto
import Derived.Laws.Bits64b
import Derived.Deep.CutBlock
import Derived.Deep.LoopGhost
namespace Go.Proofs.YtcmhfeeocehlaaaGreatDoor
set_option linter.unusedSimpArgs false
set_option linter.unusedVariables false
open Go.RowKit Go.PlainAid
attribute [local go_sem ↓] Go.wp_at_zero Go.wp_at_succ

/-- a decimal -/
structure DS where
  D : Nat → Int
  nd : Nat
  dp : Int
  neg : Bool
  tr : Bool
/-- it lies at block b -/
structure DecAt (w : World) (b : Nat) (S : DS) : Prop where
  d : ∀ i, i < 800 → w.cell? ⟨b, i, none⟩ = some (.int .u8 (S.D i))
  nd : w.cell? ⟨b, 800, none⟩ = some (.int .i64 (S.nd : Int))
  dp : w.cell? ⟨b, 801, none⟩ = some (.int .i64 S.dp)
  neg : w.cell? ⟨b, 802, none⟩ = some (.bool S.neg)
  tr : w.cell? ⟨b, 803, none⟩ = some (.bool S.tr)
  un : ∀ i, w.frozen? ⟨b, i, none⟩ = false
def DS.put (S : DS) (k : Nat) (v : Int) : DS := { S with D := fun i => if i = k then v else S.D i }

theorem DecAt.lt {w : World} {b : Nat} {S : DS} (h : DecAt w b S) : b < w.heap.size := World.block_lt_of_cell? _ _ h.nd
theorem DecAt.no {w u : World} {b : Nat} {S : DS} (h : DecAt w b S) (t : Tn No w u) : DecAt u b S := by
  have hl := h.lt
  refine ⟨fun i hi => (t.cell hl (fun e => e)).trans (h.d i hi), (t.cell hl (fun e => e)).trans h.nd, (t.cell hl (fun e => e)).trans h.dp, (t.cell hl (fun e => e)).trans h.neg, (t.cell hl (fun e => e)).trans h.tr, fun i => ?_⟩
  exact (World.frozen?_of_block (t.block b hl (fun e => e))).trans (h.un i)
theorem DecAt.drewN {w : World} {b : Nat} {S : DS} (h : DecAt w b S) (n : Nat) : DecAt (w.drewN n) b S := h.no ((Tn.refl No w).drewN n)
theorem DecAt.setD {w : World} {b : Nat} {S : DS} (h : DecAt w b S) (k : Nat) (v : Int) (hk : k < 800) : DecAt (w.setCell ⟨b, k, none⟩ (.int .u8 v)) b (S.put k v) := by
  refine ⟨fun i hi => ?_, ?_, ?_, ?_, ?_, fun i => (World.frozen?_setCell _ _ _ _).trans (h.un i)⟩
  · by_cases e : i = k
    · subst e
      simp only [DS.put, if_true]
      exact set_same (by rw [h.d i hi]; rfl)
    · simp only [DS.put, if_neg e]
      rw [cell_set_ne (Or.inr e)]; exact h.d i hi
  · rw [cell_set_ne (Or.inr (by omega))]; exact h.nd
  · rw [cell_set_ne (Or.inr (by omega))]; exact h.dp
  · rw [cell_set_ne (Or.inr (by omega))]; exact h.neg
  · rw [cell_set_ne (Or.inr (by omega))]; exact h.tr
theorem DecAt.setN {w : World} {b : Nat} {S : DS} (h : DecAt w b S) (n : Nat) : DecAt (w.setCell ⟨b, 800, none⟩ (.int .i64 (n : Int))) b { S with nd := n } := by
  refine ⟨fun i hi => ?_, set_same (by rw [h.nd]; rfl), ?_, ?_, ?_, fun i => (World.frozen?_setCell _ _ _ _).trans (h.un i)⟩
  · rw [cell_set_ne (Or.inr (by omega))]; exact h.d i hi
  · rw [cell_set_ne (Or.inr (by omega))]; exact h.dp
  · rw [cell_set_ne (Or.inr (by omega))]; exact h.neg
  · rw [cell_set_ne (Or.inr (by omega))]; exact h.tr
theorem DecAt.setP {w : World} {b : Nat} {S : DS} (h : DecAt w b S) (x : Int) : DecAt (w.setCell ⟨b, 801, none⟩ (.int .i64 x)) b { S with dp := x } := by
  refine ⟨fun i hi => ?_, ?_, set_same (by rw [h.dp]; rfl), ?_, ?_, fun i => (World.frozen?_setCell _ _ _ _).trans (h.un i)⟩
  · rw [cell_set_ne (Or.inr (by omega))]; exact h.d i hi
  · rw [cell_set_ne (Or.inr (by omega))]; exact h.nd
  · rw [cell_set_ne (Or.inr (by omega))]; exact h.neg
  · rw [cell_set_ne (Or.inr (by omega))]; exact h.tr
theorem DecAt.setT {w : World} {b : Nat} {S : DS} (h : DecAt w b S) (x : Bool) : DecAt (w.setCell ⟨b, 803, none⟩ (.bool x)) b { S with tr := x } := by
  refine ⟨fun i hi => ?_, ?_, ?_, ?_, set_same (by rw [h.tr]; rfl), fun i => (World.frozen?_setCell _ _ _ _).trans (h.un i)⟩
  · rw [cell_set_ne (Or.inr (by omega))]; exact h.d i hi
  · rw [cell_set_ne (Or.inr (by omega))]; exact h.nd
  · rw [cell_set_ne (Or.inr (by omega))]; exact h.dp
  · rw [cell_set_ne (Or.inr (by omega))]; exact h.neg
/-- a decimal's block, and nothing else, may have turned -/
def At1 (b : Nat) : Nat → Prop := fun i => i = b

/-- without the zeros at its end -/
def trimN (D : Nat → Int) : Nat → Nat
  | 0 => 0
  | n + 1 => if D n = 48 then trimN D n else n + 1
theorem trimN_le (D : Nat → Int) : ∀ n, trimN D n ≤ n
  | 0 => Nat.le_refl _
  | n + 1 => by unfold trimN; split; exact Nat.le_succ_of_le (trimN_le D n); exact Nat.le_refl _
def DS.trim (S : DS) : DS := { S with nd := trimN S.D S.nd, dp := if trimN S.D S.nd = 0 then 0 else S.dp }

def ndOf (b : Nat) (w : World) : Nat := match w.cell? ⟨b, 800, none⟩ with | some (.int .i64 x) => x.toNat | _ => 0
theorem DecAt.ndOf {w : World} {b : Nat} {S : DS} (h : DecAt w b S) : ndOf b w = S.nd := by unfold Go.Proofs.YtcmhfeeocehlaaaGreatDoor.ndOf; rw [h.nd]; simp
theorem At1.set {b : Nat} {w u : World} (t : Tn (At1 b) w u) (k : Nat) (v : Value) : Tn (At1 b) w (u.setCell ⟨b, k, none⟩ v) := t.set ⟨b, k, none⟩ v (fun _ => rfl)

set_option maxHeartbeats 4000000 in
set_option maxRecDepth 100000 in
theorem dtrim_raw (S : DS) (b : Nat) (w : World) (h : DecAt w b S) (hn : S.nd ≤ 800) :
    Calls Tryz.prog 170 #[.pointer (some ⟨b, 0, none⟩)] w fun e w' => e = .returned (.tuple #[]) ∧ Tn (At1 b) w w' ∧ DecAt w' b S.trim := by
  obtain ⟨D, nd, dp, ng, tr⟩ := S
  simp only at hn
  have HH := hid h
  clear h
  go_enter Tryz.func170, Tryz.ntmps170
  go_wp2_with fail
  go_loopw [20] (fun _ wr => ∃ n : Nat, n ≤ nd ∧ Hid (trimN D n = trimN D nd) ∧ Tn (At1 b) w wr ∧ DecAt wr b ⟨D, n, dp, ng, tr⟩) (fun _ wr => ndOf b wr)
  case atStart => exact ⟨nd, Nat.le_refl _, hid rfl, Tn.refl _ _, HH.out⟩
  case round =>
    obtain ⟨n, hle, HT, ht, hd⟩ := hrel
    have k1 := hd.nd
    have k2 := hd.dp
    have z800 := hd.un 800
    have z801 := hd.un 801
    have HD := hid hd
    have HTn := hid ht
    by_cases h0 : n = 0
    · subst h0
      have hdz : decide ((0 : Int) > 0) = false := by decide
      clear hd ht
      simp only at k1 k2
      go_wp2_with fail
      go_quiet (fail)
      go_wp2_with fail
      go_end0
      have e : DS.trim ⟨D, nd, dp, ng, tr⟩ = ⟨D, 0, 0, ng, tr⟩ := by
        have h0 : trimN D nd = 0 := HT.out.symm
        simp [DS.trim, h0]
      rw [e]
      exact ⟨rfl, At1.set (HTn.out.drewN nq) _ _, (HD.out.drewN nq).setP 0⟩
    · have hp : (0 : Int) < (n : Int) := by omega
      have kd := hd.d (n - 1) (by omega)
      have z1 : (0 : Int) ≤ (n : Int) - 1 := by omega
      have z2 : (n : Int) - 1 < 800 := by omega
      have z3 : ((n : Int) - 1).toNat = n - 1 := by omega
      simp only at k1 k2 kd
      have hpd : decide (0 < n) = true := decide_eq_true (by omega)
      have hnz : ((n : Int) == 0) = false := by simpa using h0
      have HU : trimN D n = if D (n - 1) = 48 then trimN D (n - 1) else n := by
        obtain ⟨m, rfl⟩ : ∃ m, n = m + 1 := ⟨n - 1, by omega⟩
        rfl
      have HU := hid HU
      clear hd ht
      cases h48 : (D (n - 1) == 48)
      · go_wp2_with fail
        go_quiet (fail)
        go_wp2_with fail
        go_end0
        have e : DS.trim ⟨D, nd, dp, ng, tr⟩ = ⟨D, n, dp, ng, tr⟩ := by
          have h1 : trimN D nd = n := by rw [← HT.out, HU.out, if_neg (by simpa using h48)]
          simp [DS.trim, h1, h0]
        rw [e]
        exact ⟨rfl, HTn.out.drewN nq, HD.out.drewN nq⟩
      · go_wp2_with fail
        go_quiet (fail)
        go_wp2_with fail
        have hd2 := (HD.out.drewN nq).setN (n - 1)
        rw [show ((n - 1 : Nat) : Int) = (n : Int) - 1 by omega] at hd2
        go_roundw
        case rel => exact ⟨n - 1, by omega, hid (by rw [← HT.out, HU.out, if_pos (by simpa using h48)]), At1.set (HTn.out.drewN nq) _ _, hd2⟩
        case measure => rw [hd2.ndOf, HD.out.ndOf]; simp only; omega
end Go.Proofs.YtcmhfeeocehlaaaGreatDoor
namespace Go.Proofs.YtcmhfeeocehlaaaGreatDoor
set_option linter.unusedSimpArgs false
set_option linter.unusedVariables false
open Go.RowKit Go.PlainAid

/-- a digit, nought behind the last -/
def DS.dg (S : DS) (i : Nat) : Nat := if i < S.nd then (S.D i - 48).toNat else 0
/-- digits they are; the first one is not nought -/
structure DS.Ok (S : DS) : Prop where
  pos : 1 ≤ S.nd
  le : S.nd ≤ 800
  dig : ∀ i, i < S.nd → 48 ≤ S.D i ∧ S.D i ≤ 57
  first : 49 ≤ S.D 0
theorem DS.Ok.dg9 {S : DS} (h : S.Ok) (i : Nat) : S.dg i ≤ 9 := by
  unfold DS.dg; split
  · have := h.dig i (by assumption); omega
  · omega
theorem DS.Ok.dgE {S : DS} (h : S.Ok) {i : Nat} (hi : i < S.nd) : S.D i = 48 + (S.dg i : Int) := by
  unfold DS.dg; rw [if_pos hi]
  have := h.dig i hi; omega
/-- the number of the first r digits -/
def DS.pn (S : DS) : Nat → Nat
  | 0 => 0
  | r + 1 => S.pn r * 10 + S.dg r
/-- what is left when r digits have been picked up, the first R at once -/
def DS.qn (S : DS) (M R : Nat) : Nat → Nat
  | 0 => S.pn R
  | j + 1 => S.qn M R j % M * 10 + S.dg (R + j)
/-- R digits are picked up first: the least number of them that comes to M -/
def DS.Up (S : DS) (M R : Nat) : Prop := 1 ≤ R ∧ S.pn (R - 1) < M ∧ M ≤ S.pn R
theorem DS.pn_mono (S : DS) (r : Nat) : S.pn r ≤ S.pn (r + 1) := by show S.pn r ≤ S.pn r * 10 + S.dg r; omega
theorem DS.pn_le (S : DS) : ∀ {r t : Nat}, r ≤ t → S.pn r ≤ S.pn t
  | r, 0, h => by have : r = 0 := by omega
                  subst this; exact Nat.le_refl _
  | r, t + 1, h => by
    rcases Nat.lt_or_ge r (t + 1) with h1 | h1
    · exact Nat.le_trans (S.pn_le (by omega)) (S.pn_mono t)
    · have : r = t + 1 := by omega
      subst this; exact Nat.le_refl _
theorem DS.Ok.pn_pos {S : DS} (h : S.Ok) : ∀ r, 1 ≤ r → 10 ^ (r - 1) ≤ S.pn r
  | 0, h0 => by omega
  | 1, _ => by
    have := h.dgE h.pos
    have := h.first
    show 10 ^ 0 ≤ S.pn 0 * 10 + S.dg 0
    simp; omega
  | r + 2, _ => by
    have ih := h.pn_pos (r + 1) (by omega)
    show 10 ^ (r + 1) ≤ S.pn (r + 1) * 10 + S.dg (r + 1)
    rw [Nat.pow_succ]
    have e : r + 1 - 1 = r := by omega
    rw [e] at ih
    omega
theorem DS.Ok.up_ex {S : DS} (h : S.Ok) (M : Nat) (hM : 1 ≤ M) : ∃ R, S.Up M R := by
  have hex : ∃ r, M ≤ S.pn r := ⟨M + 1, by
    have := h.pn_pos (M + 1) (by omega)
    have h2 : M < 10 ^ M := Nat.lt_pow_self (by decide)
    simp at this; omega⟩
  have : ∀ n, M ≤ S.pn n → ∃ R, S.Up M R := by
    intro n
    induction n with
    | zero => intro hn; simp [DS.pn] at hn; omega
    | succ n ih =>
      intro hn
      by_cases hc : M ≤ S.pn n
      · exact ih hc
      · exact ⟨n + 1, by omega, by simpa using hc, hn⟩
  obtain ⟨r, hr⟩ := hex
  exact this r hr
theorem DS.Ok.pn_lt {S : DS} (h : S.Ok) {M R : Nat} (hu : S.Up M R) : S.pn R < 10 * M := by
  obtain ⟨h1, h2, h3⟩ := hu
  have e : R = R - 1 + 1 := by omega
  rw [e]
  show S.pn (R - 1) * 10 + S.dg (R - 1) < 10 * M
  have := h.dg9 (R - 1)
  omega
theorem DS.Ok.qn_lt {S : DS} (h : S.Ok) {M R : Nat} (hu : S.Up M R) : ∀ j, S.qn M R j < 10 * M
  | 0 => h.pn_lt hu
  | j + 1 => by
    show S.qn M R j % M * 10 + S.dg (R + j) < 10 * M
    have h1 := h.dg9 (R + j)
    have h0 : 0 < M := by obtain ⟨a, b, c⟩ := hu; omega
    have := Nat.mod_lt (S.qn M R j) h0
    omega
/-- behind the last digit the rest becomes nought -/
theorem DS.qn_end (S : DS) (k R : Nat) (t : Nat) (ht : S.nd ≤ R + t) : ∃ T, t ≤ T ∧ T ≤ t + k + 1 ∧ S.qn (2 ^ k) R T = 0 := by
  have hz : ∀ i, S.dg (R + t + i) = 0 := fun i => by unfold DS.dg; rw [if_neg (by omega)]
  have hdiv : ∀ i, i ≤ k → 2 ^ i ∣ S.qn (2 ^ k) R (t + i) := by
    intro i
    induction i with
    | zero => intro _; simp
    | succ i ih =>
      intro hi
      have h1 := ih (by omega)
      show 2 ^ (i + 1) ∣ S.qn (2 ^ k) R (t + i) % 2 ^ k * 10 + S.dg (R + (t + i))
      rw [← Nat.add_assoc, hz i, Nat.add_zero]
      have h2 : 2 ^ i ∣ S.qn (2 ^ k) R (t + i) % 2 ^ k := (Nat.dvd_mod_iff (Nat.pow_dvd_pow 2 (by omega))).2 h1
      obtain ⟨c, hc⟩ := h2
      rw [hc, Nat.pow_succ]
      exact ⟨c * 5, by rw [Nat.mul_assoc, Nat.mul_assoc, show c * 10 = 2 * (c * 5) by omega, Nat.add_zero]⟩
  refine ⟨t + k + 1, by omega, by omega, ?_⟩
  show S.qn (2 ^ k) R (t + k) % 2 ^ k * 10 + S.dg (R + (t + k)) = 0
  rw [← Nat.add_assoc, hz k, Nat.add_zero, Nat.mod_eq_zero_of_dvd (hdiv k (Nat.le_refl _))]
/-- T digits are put down: those till the last is picked up, and then till nothing is left -/
def DS.Down (S : DS) (M R T : Nat) : Prop := S.nd ≤ R + T ∧ S.qn M R T = 0 ∧ ∀ t, t < T → S.nd ≤ R + t → S.qn M R t ≠ 0
theorem DS.down_ex (S : DS) (k R : Nat) : ∃ T, T ≤ S.nd + k + 1 ∧ S.Down (2 ^ k) R T := by
  obtain ⟨T0, h1, h1b, h2⟩ := S.qn_end k R (S.nd - R) (by omega)
  have : ∀ n, n ≤ S.nd + k + 1 → S.nd ≤ R + n → S.qn (2 ^ k) R n = 0 → ∃ T, T ≤ S.nd + k + 1 ∧ S.Down (2 ^ k) R T := by
    intro n
    induction n using Nat.strongRecOn with
    | _ n ih =>
      intro hnb hn hq
      by_cases hc : ∃ t, t < n ∧ S.nd ≤ R + t ∧ S.qn (2 ^ k) R t = 0
      · obtain ⟨t, t1, t2, t3⟩ := hc
        exact ih t t1 (by omega) t2 t3
      · exact ⟨n, hnb, hn, hq, fun t ht ht2 h0 => hc ⟨t, ht, ht2, h0⟩⟩
  exact this T0 (by omega) (by omega) h2
/-- the digits that were put down, j of them, ahead of those that were there -/
def DS.over (S : DS) (M R j : Nat) : Nat → Int := fun i => if i < j then ((S.qn M R i / M : Nat) : Int) + 48 else S.D i
/-- is one of those that had no room, up to the t'th, not nought? -/
def DS.lost (S : DS) (M R : Nat) : Nat → Bool
  | 0 => S.tr
  | t + 1 => if 800 ≤ t then S.lost M R t || decide (0 < S.qn M R t / M) else S.lost M R t
theorem DS.lost_small (S : DS) (M R : Nat) : ∀ t, t ≤ 800 → S.lost M R t = S.tr
  | 0, _ => rfl
  | t + 1, h => by
    unfold DS.lost
    rw [if_neg (by omega)]
    exact S.lost_small M R t (by omega)
theorem DS.over_put (S : DS) (M R j nd : Nat) (dp : Int) (ng tr : Bool) : DS.put ⟨S.over M R j, nd, dp, ng, tr⟩ j (((S.qn M R j / M : Nat) : Int) + 48) = ⟨S.over M R (j + 1), nd, dp, ng, tr⟩ := by
  unfold DS.put DS.over
  simp only [DS.mk.injEq, and_true]
  funext i
  by_cases h : i = j
  · subst h
    rw [if_pos rfl, if_pos (by omega)]
  · rw [if_neg h]
    by_cases h2 : i < j
    · rw [if_pos h2, if_pos (by omega)]
    · rw [if_neg h2, if_neg (by omega)]
def DS.shr (S : DS) (M R T : Nat) : DS := DS.trim ⟨S.over M R (min T 800), min T 800, wrap64 (S.dp - ((R : Int) - 1)), S.neg, S.lost M R T⟩
end Go.Proofs.YtcmhfeeocehlaaaGreatDoor
namespace Go.Proofs.YtcmhfeeocehlaaaGreatDoor
set_option linter.unusedSimpArgs false
set_option linter.unusedVariables false
open Go.RowKit Go.PlainAid
attribute [local go_sem ↓] Go.wp_at_zero Go.wp_at_succ

/-- do the digits from the i'th on come ahead of those of c? (f: how many of c's are left) -/
def plF (S : DS) (c : ByteArray) : Nat → Nat → Bool
  | 0, _ => false
  | f + 1, i => if S.nd ≤ i then true else if S.D i = bt c i then plF S c f (i + 1) else decide (S.D i < bt c i)
def DS.pl (S : DS) (c : ByteArray) (i : Nat) : Bool := plF S c (c.size - i) i
theorem DS.pl_end (S : DS) (c : ByteArray) {i : Nat} (h : c.size ≤ i) : S.pl c i = false := by
  unfold DS.pl; rw [show c.size - i = 0 by omega]; rfl
theorem DS.pl_step (S : DS) (c : ByteArray) {i : Nat} (h : i < c.size) : S.pl c i = if S.nd ≤ i then true else if S.D i = bt c i then S.pl c (i + 1) else decide (S.D i < bt c i) := by
  unfold DS.pl; rw [show c.size - i = (c.size - (i + 1)) + 1 by omega]; rfl

set_option maxHeartbeats 4000000 in
set_option maxRecDepth 100000 in
theorem prefix_raw (S : DS) (c : ByteArray) (b cp : Nat) (w : World) (h : DecAt w b S) (hn : S.nd ≤ 800) (hc : c.size ≤ 100) :
    Calls Tryz.prog 169 #[.slice (some ⟨b, 0, none⟩) S.nd cp, .string c] w fun e w' => e = .returned (.bool (S.pl c 0)) ∧ ∃ m, w' = w.drewN m := by
  have hb := get_bt c
  have HH := hid h
  clear h
  go_enter Tryz.func169, Tryz.ntmps169
  go_wp2_with fail
  go_loopw [5] (fun v5 wr => ∃ i : Nat, i ≤ c.size ∧ v5 = .int .i64 (i : Int) ∧ Hid (S.pl c i = S.pl c 0) ∧ ∃ m, wr = w.drewN m) (fun v5 _ => c.size - (intOf v5).toNat)
  case atStart => exact ⟨0, by omega, rfl, hid rfl, 0, rfl⟩
  case round =>
    obtain ⟨i, hi, rfl, HP, m0, rfl⟩ := hrel
    by_cases hlt : i < c.size
    · have HS := hid (S.pl_step c hlt)
      have hli : (i : Int) < (c.size : Int) := by omega
      by_cases hni : S.nd ≤ i
      · have hni' : (S.nd : Int) ≤ (i : Int) := by omega
        go_wp2_with fail
        go_ret
        refine ⟨ret_bool ?_, m0, rfl⟩
        rw [← HP.out, HS.out, if_pos hni]
      · have hni' : (i : Int) < (S.nd : Int) := by omega
        have kd := HH.out.d i (by omega)
        have p1 := bt_nonneg c i
        by_cases he : S.D i = bt c i
        · have heb : (S.D i != bt c i) = false := by simp [he]
          have HH2 := hid HH.out
          go_wp2_with fail
          go_quiet (fail)
          go_wp2_with fail
          go_roundw
          case rel => exact ⟨i + 1, by omega, by go_num, hid (by rw [← HP.out, HS.out, if_neg hni, if_pos he]), _, rfl⟩
          case measure => simp [intOf]; omega
        · have heb : (S.D i != bt c i) = true := by simpa using he
          have HE := hid he
          clear he
          go_wp2_with fail
          go_quiet (fail)
          go_wp2_with fail
          go_quiet (fail)
          go_wp2_with fail
          go_ret
          refine ⟨ret_bool ?_, ?_⟩
          · rw [← HP.out, HS.out, if_neg hni, if_neg HE.out]
          · exact ⟨_, by rw [World.drewN_drewN, World.drewN_drewN]⟩
    · have hli : ¬ (i : Int) < (c.size : Int) := by omega
      go_wp2_with fail
      go_ret
      refine ⟨ret_bool ?_, m0, rfl⟩
      rw [← HP.out, S.pl_end c (by omega)]
end Go.Proofs.YtcmhfeeocehlaaaGreatDoor
namespace Go.Proofs.YtcmhfeeocehlaaaGreatDoor
set_option linter.unusedSimpArgs false
set_option linter.unusedVariables false
open Go.RowKit Go.PlainAid

/-- the value of the first i digits of a text -/
def cv (c : ByteArray) : Nat → Nat
  | 0 => 0
  | i + 1 => cv c i * 10 + (bt c i - 48).toNat
/-- a text of digits, the last of which is not nought -/
structure Cut (c : ByteArray) : Prop where
  pos : 1 ≤ c.size
  le : c.size ≤ 100
  dig : ∀ i, i < c.size → 48 ≤ bt c i ∧ bt c i ≤ 57
  last : 49 ≤ bt c (c.size - 1)

theorem DS.Ok.pn_up {S : DS} (h : S.Ok) (i : Nat) : ∀ t, S.pn i * 10 ^ t ≤ S.pn (i + t) ∧ S.pn (i + t) + 1 ≤ (S.pn i + 1) * 10 ^ t
  | 0 => by simp
  | t + 1 => by
    have ih := h.pn_up i t
    have h9 := h.dg9 (i + t)
    have e : S.pn (i + (t + 1)) = S.pn (i + t) * 10 + S.dg (i + t) := rfl
    rw [e, Nat.pow_succ, ← Nat.mul_assoc, ← Nat.mul_assoc]
    omega
theorem Cut.cv_up {c : ByteArray} (h : Cut c) (i : Nat) : ∀ t, i + t ≤ c.size → cv c i * 10 ^ t ≤ cv c (i + t) ∧ cv c (i + t) + 1 ≤ (cv c i + 1) * 10 ^ t
  | 0, _ => by simp
  | t + 1, ht => by
    have ih := h.cv_up i t (by omega)
    have h9 := h.dig (i + t) (by omega)
    have e : cv c (i + (t + 1)) = cv c (i + t) * 10 + (bt c (i + t) - 48).toNat := rfl
    rw [e, Nat.pow_succ, ← Nat.mul_assoc, ← Nat.mul_assoc]
    omega
theorem Cut.cv_lt {c : ByteArray} (h : Cut c) (i : Nat) (hi : i < c.size) : cv c i * 10 ^ (c.size - i) < cv c c.size := by
  have h1 := (h.cv_up i (c.size - 1 - i) (by omega)).1
  rw [show i + (c.size - 1 - i) = c.size - 1 by omega] at h1
  have e : cv c c.size = cv c (c.size - 1) * 10 + (bt c (c.size - 1) - 48).toNat := by
    obtain ⟨m, hm⟩ : ∃ m, c.size = m + 1 := ⟨c.size - 1, by omega⟩
    rw [hm]; rfl
  have hl := h.last
  rw [e, show c.size - i = (c.size - 1 - i) + 1 by omega, Nat.pow_succ, ← Nat.mul_assoc]
  omega
/-- what prefixIsLessThan tells, as numbers -/
theorem DS.Ok.pl_num {S : DS} (h : S.Ok) {c : ByteArray} (hc : Cut c) : ∀ f i, c.size - i = f → i ≤ c.size → i ≤ S.nd → S.pn i = cv c i → (S.pl c i = true → S.pn S.nd * 10 ^ c.size < cv c c.size * 10 ^ S.nd) ∧ (S.pl c i = false → cv c c.size * 10 ^ S.nd ≤ S.pn S.nd * 10 ^ c.size)
  | 0, i, hf, hi, hn, he => by
    have hic : i = c.size := by omega
    subst hic
    rw [S.pl_end c (Nat.le_refl _)]
    refine ⟨fun h => (by cases h), fun _ => ?_⟩
    have h1 := (h.pn_up c.size (S.nd - c.size)).1
    rw [show c.size + (S.nd - c.size) = S.nd by omega, he] at h1
    have h2 := Nat.mul_le_mul_right (10 ^ c.size) h1
    rw [Nat.mul_assoc, ← Nat.pow_add, show S.nd - c.size + c.size = S.nd by omega] at h2
    exact h2
  | f + 1, i, hf, hi, hn, he => by
    have hic : i < c.size := by omega
    rw [S.pl_step c hic]
    by_cases h1 : S.nd ≤ i
    · have hin : i = S.nd := by omega
      subst hin
      rw [if_pos h1]
      refine ⟨fun _ => ?_, fun h => (by cases h)⟩
      have h2 := hc.cv_lt S.nd hic
      rw [he]
      have h3 := Nat.mul_lt_mul_of_pos_right h2 (Nat.pow_pos (n := S.nd) (by decide : 0 < 10))
      rw [Nat.mul_assoc, ← Nat.pow_add, show c.size - S.nd + S.nd = c.size by omega] at h3
      exact h3
    · rw [if_neg h1]
      have hD := h.dgE (show i < S.nd by omega)
      have h9 := hc.dig i hic
      have ep : S.pn (i + 1) = S.pn i * 10 + S.dg i := rfl
      have ec : cv c (i + 1) = cv c i * 10 + (bt c i - 48).toNat := rfl
      by_cases h2 : S.D i = bt c i
      · rw [if_pos h2]
        exact h.pl_num hc f (i + 1) (by omega) (by omega) (by omega) (by rw [ep, ec, he]; omega)
      · rw [if_neg h2]
        have u1 := h.pn_up (i + 1) (S.nd - (i + 1))
        rw [show i + 1 + (S.nd - (i + 1)) = S.nd by omega] at u1
        have u2 := hc.cv_up (i + 1) (c.size - (i + 1)) (by omega)
        rw [show i + 1 + (c.size - (i + 1)) = c.size by omega] at u2
        have w1 : 10 ^ (S.nd - (i + 1)) * 10 ^ c.size = 10 ^ (S.nd + c.size - (i + 1)) := by rw [← Nat.pow_add]; congr 1; omega
        have w2 : 10 ^ (c.size - (i + 1)) * 10 ^ S.nd = 10 ^ (S.nd + c.size - (i + 1)) := by rw [← Nat.pow_add]; congr 1; omega
        have a1 := Nat.mul_le_mul_right (10 ^ c.size) u1.1
        have a2 := Nat.mul_le_mul_right (10 ^ c.size) u1.2
        have a3 := Nat.mul_le_mul_right (10 ^ S.nd) u2.1
        have a4 := Nat.mul_le_mul_right (10 ^ S.nd) u2.2
        rw [Nat.mul_assoc, w1] at a1 a2
        rw [Nat.mul_assoc, w2] at a3 a4
        have p1 : 0 < 10 ^ c.size := Nat.pow_pos (by decide)
        have p2 : 0 < 10 ^ S.nd := Nat.pow_pos (by decide)
        rw [Nat.add_mul, Nat.one_mul] at a2 a4
        refine ⟨fun hlt => ?_, fun hge => ?_⟩
        · have hlt' : S.D i < bt c i := of_decide_eq_true hlt
          have : S.pn (i + 1) + 1 ≤ cv c (i + 1) := by rw [ep, ec, he]; omega
          have := Nat.mul_le_mul_right (10 ^ (S.nd + c.size - (i + 1))) this
          omega
        · have hge' : ¬ S.D i < bt c i := of_decide_eq_false hge
          have : cv c (i + 1) + 1 ≤ S.pn (i + 1) := by rw [ep, ec, he]; omega
          have := Nat.mul_le_mul_right (10 ^ (S.nd + c.size - (i + 1))) this
          omega
end Go.Proofs.YtcmhfeeocehlaaaGreatDoor
namespace Go.Proofs.YtcmhfeeocehlaaaGreatDoor
set_option linter.unusedSimpArgs false
set_option linter.unusedVariables false
open Go.RowKit Go.PlainAid
attribute [local go_sem ↓] Go.wp_at_zero Go.wp_at_succ

theorem and_mask (n M : Nat) (k : Nat) (hk : k ≤ 60) (hM : M = 2 ^ k) (hn : n < 18446744073709551616) : bits .and .u64 (n : Int) ((M : Int) - 1) = ((n % M : Nat) : Int) := by
  have h1 : 1 ≤ M := by rw [hM]; exact Nat.one_le_two_pow
  have h2 : M ≤ 2 ^ 60 := by rw [hM]; exact Nat.pow_le_pow_right (by decide) hk
  rw [show (M : Int) - 1 = ((M - 1 : Nat) : Int) by omega, bits_and_u64_nat n (M - 1) hn (by omega), hM, Nat.and_two_pow_sub_one_eq_mod]

set_option maxHeartbeats 8000000 in
set_option maxRecDepth 100000 in
theorem rshift_raw (S : DS) (k M R T b : Nat) (w : World) (h : DecAt w b S) (ok : S.Ok) (hk : k ≤ 60) (hM : M = 2 ^ k) (hu : S.Up M R) (hdn : S.Down M R T) (hR : R ≤ 1000) (hT : T ≤ 2000) :
    Calls Tryz.prog 162 #[.pointer (some ⟨b, 0, none⟩), .int .u64 (k : Int)] w fun e w' => e = .returned (.tuple #[]) ∧ Tn (At1 b) w w' ∧ DecAt w' b (S.shr M R T) := by
  have hM60 : M ≤ 1152921504606846976 := by rw [hM]; exact Nat.le_trans (Nat.pow_le_pow_right (by decide) hk) (by decide)
  have hM1 : 1 ≤ M := by rw [hM]; exact Nat.one_le_two_pow
  have hpw : (2 : Int) ^ k = (M : Int) := by rw [hM]; simp
  have hki : (k : Int) ≤ 64 := by omega
  have HU := hid hu
  have HDN := hid hdn
  have HO := hid ok
  have HH := hid h
  have hR1 := hu.1
  have HM := hid hM
  have k1 := h.nd
  have z800 := h.un 800
  have z801 := h.un 801
  have k2 := h.dp
  clear hu hdn ok h hM
  go_enter Tryz.func162, Tryz.ntmps162
  go_upto_block 0 with fail
  go_cut [4, 6, 7] (fun v4 v6 _ wx => v4 = .int .i64 (R : Int) ∧ v6 = .int .u64 (S.pn R : Int) ∧ wx = w)
  case first =>
    go_wp2_with fail
    go_loop [4, 6] (fun v4 v6 => ∃ r : Nat, r ≤ R ∧ v4 = .int .i64 (r : Int) ∧ v6 = .int .u64 (S.pn r : Int)) (fun v4 _ => R - (intOf v4).toNat)
    case atStart => exact ⟨0, by omega, rfl, rfl⟩
    case round =>
      obtain ⟨r, hr, rfl, rfl⟩ := hrel
      by_cases hrR : r < R
      · have hlt : S.pn r < M := Nat.lt_of_le_of_lt (S.pn_le (by omega)) HU.out.2.1
        have hz : (S.pn r : Int) / (M : Int) = 0 := by rw [← Int.natCast_ediv, Nat.div_eq_of_lt hlt]; rfl
        by_cases hrn : r < S.nd
        · have kd := HH.out.d r (by have := HO.out.le; omega)
          have hDr := HO.out.dgE hrn
          rw [hDr] at kd
          have h9 := HO.out.dg9 r
          have hrn' : (r : Int) < (S.nd : Int) := by omega
          have hr8 : (r : Int) < 800 := by have := HO.out.le; omega
          have HN : Hid ((S.pn (r + 1) : Int) = (S.pn r : Int) * 10 + (S.dg r : Int)) := hid (by show ((S.pn r * 10 + S.dg r : Nat) : Int) = _; omega)
          clear hDr
          go_wp2_with fail
          go_round
          · exact ⟨r + 1, by omega, by go_num, by rw [HN.out]; congr 1; omega⟩
          · simp [intOf]; omega
        · have hrn' : (S.nd : Int) ≤ (r : Int) := by omega
          have hnz : ¬ (S.pn r : Int) = 0 := by
            have := HO.out.pn_pos r (by have := HO.out.pos; omega)
            have : 0 < 10 ^ (r - 1) := Nat.pow_pos (by decide)
            omega
          have hnzb : ((S.pn r : Int) == 0) = false := by simpa using hnz
          go_wp2_with fail
          go_loop [4, 6] (fun v4 v6 => ∃ t : Nat, S.nd ≤ t ∧ t ≤ R ∧ v4 = .int .i64 (t : Int) ∧ v6 = .int .u64 (S.pn t : Int)) (fun v4 _ => R - (intOf v4).toNat)
          case atStart => exact ⟨r, by omega, by omega, rfl, rfl⟩
          case round =>
            obtain ⟨t, ht1, ht2, rfl, rfl⟩ := hrel
            by_cases htR : t < R
            · have hlt2 : S.pn t < M := Nat.lt_of_le_of_lt (S.pn_le (by omega)) HU.out.2.1
              have hz2 : (S.pn t : Int) / (M : Int) = 0 := by rw [← Int.natCast_ediv, Nat.div_eq_of_lt hlt2]; rfl
              have HN : Hid ((S.pn (t + 1) : Int) = (S.pn t : Int) * 10) := hid (by
                show ((S.pn t * 10 + S.dg t : Nat) : Int) = _
                have : S.dg t = 0 := by unfold DS.dg; rw [if_neg (by omega)]
                rw [this]; omega)
              go_wp2_with fail
              go_round
              · exact ⟨t + 1, by omega, by omega, by go_num, by rw [HN.out]⟩
              · simp [intOf]; omega
            · have htR' : t = R := by omega
              subst htR'
              have hnz2 : ¬ (S.pn t : Int) / (M : Int) = 0 := by
                rw [← Int.natCast_ediv]
                have := Nat.div_pos HU.out.2.2 (by omega)
                omega
              go_wp2_with fail
              go_meet
              exact ⟨rfl, rfl, rfl⟩
      · have hrR' : r = R := by omega
        subst hrR'
        have hnz : ¬ (S.pn r : Int) / (M : Int) = 0 := by
          rw [← Int.natCast_ediv]
          have := Nat.div_pos HU.out.2.2 (by omega)
          omega
        go_wp2_with fail
        go_meet
        exact ⟨rfl, rfl, rfl⟩
  case rest =>
    obtain ⟨rfl, rfl, rfl⟩ := hcut
    go_wp2_with fail
    have HT0 : Hid (Tn (At1 b) wc (wc.setCell ⟨b, 801, none⟩ (.int .i64 (wrap64 (S.dp - ((R : Int) - 1)))))) := hid (At1.set (Tn.refl _ _) _ _)
    have HD0 : Hid (DecAt (wc.setCell ⟨b, 801, none⟩ (.int .i64 (wrap64 (S.dp - ((R : Int) - 1))))) b ⟨S.over M R 0, S.nd, wrap64 (S.dp - ((R : Int) - 1)), S.neg, S.tr⟩) := hid (by
      have e : S.over M R 0 = S.D := by funext i; unfold DS.over; rw [if_neg (by omega)]
      rw [e]; exact HH.out.setP _)
    have hnd8 := HO.out.le
    clear k1 k2 z800 z801
    go_loopw [4, 5, 6] (fun v4 v5 v6 wr => ∃ j : Nat, j ≤ S.nd - R ∧ v4 = .int .i64 ((R + j : Nat) : Int) ∧ v5 = .int .i64 (j : Int) ∧ v6 = .int .u64 (S.qn M R j : Int) ∧ Tn (At1 b) wc wr ∧ DecAt wr b ⟨S.over M R j, S.nd, wrap64 (S.dp - ((R : Int) - 1)), S.neg, S.tr⟩) (fun v4 _ _ _ => S.nd - (intOf v4).toNat)
    case atStart => exact ⟨0, by omega, rfl, rfl, rfl, HT0.out, HD0.out⟩
    case round =>
      obtain ⟨j, hj, rfl, rfl, rfl, ht, hd⟩ := hrel
      have k1 := hd.nd
      have hq := HO.out.qn_lt HU.out j
      obtain ⟨q, hqe⟩ : ∃ q, S.qn M R j = q := ⟨_, rfl⟩
      rw [hqe] at hq ⊢
      have HQ := hid hqe
      simp only at k1
      by_cases hlt : R + j < S.nd
      · have kd := hd.d (R + j) (by omega)
        have hov : S.over M R j (R + j) = 48 + (S.dg (R + j) : Int) := by
          unfold DS.over; rw [if_neg (by omega)]; exact HO.out.dgE hlt
        simp only at kd
        rw [hov] at kd
        have h9 := HO.out.dg9 (R + j)
        obtain ⟨dg, hdg⟩ : ∃ dg, S.dg (R + j) = dg := ⟨_, rfl⟩
        rw [hdg] at kd h9
        have HDG := hid hdg
        have kw := hd.d j (by omega)
        have zw := hd.un j
        simp only at kw
        have hm := and_mask q M k hk HM.out (by omega)
        rw [Int.natCast_emod] at hm
        have hqm0 : 0 ≤ (q : Int) % (M : Int) := Int.emod_nonneg _ (by omega)
        have hqm1 : (q : Int) % (M : Int) < (M : Int) := Int.emod_lt_of_pos _ (by omega)
        have hq0 : 0 ≤ (q : Int) / (M : Int) := Int.ediv_nonneg (by omega) (by omega)
        have hq9 : (q : Int) / (M : Int) ≤ 9 := by
          have := (Nat.div_lt_iff_lt_mul (by omega : 0 < M)).2 hq
          rw [← Int.natCast_ediv]; omega
        have HT := hid ht
        have HD := hid hd
        obtain ⟨r, hr⟩ : ∃ r, R + j = r := ⟨_, rfl⟩
        rw [hr] at kd hlt ⊢
        have HRJ := hid hr
        have hr8 : (r : Int) < 800 := by omega
        have hrn : (r : Int) < (S.nd : Int) := by omega
        have hj8 : (j : Int) < 800 := by omega
        clear ht hd hqe hdg hov hr
        go_wp2_with fail
        have hd2 := HD.out.setD j (((S.qn M R j / M : Nat) : Int) + 48) (by omega)
        rw [DS.over_put, HQ.out, Int.natCast_ediv] at hd2
        have hv : ((S.qn M R (j + 1) : Nat) : Int) = (q : Int) % (M : Int) * 10 + (48 + (dg : Int)) - 48 := by
          rw [show S.qn M R (j + 1) = S.qn M R j % M * 10 + S.dg (R + j) from rfl, HQ.out, HDG.out, Int.natCast_add, Int.natCast_mul, Int.natCast_emod]
          generalize (q : Int) % (M : Int) = z
          omega
        have hrj := HRJ.out
        go_roundw
        case rel => exact ⟨j + 1, by omega, by congr 1; omega, by go_num, by rw [hv], At1.set HT.out _ _, hd2⟩
        case measure => simp [intOf]; omega
      · have hnl : ¬ ((R + j : Nat) : Int) < (S.nd : Int) := by omega
        obtain ⟨r, hr⟩ : ∃ r, R + j = r := ⟨_, rfl⟩
        rw [hr] at hnl ⊢
        have HRJ := hid hr
        have HT1 := hid ht
        have HD1 := hid hd
        have hjT : j ≤ T := by have := HDN.out.1; omega
        have hnl2 : S.nd ≤ R + j := by omega
        clear hr ht hd hq
        rw [← HQ.out]
        clear HQ hqe
        go_wp2_with fail
        go_loopg [5, 6] (T - j) (fun g v5 v6 wr => ∃ (t m : Nat), j ≤ t ∧ t ≤ T ∧ g = T - t ∧ m = min t 800 ∧ v5 = .int .i64 (m : Int) ∧ v6 = .int .u64 (S.qn M R t : Int) ∧ Tn (At1 b) wc wr ∧ DecAt wr b ⟨S.over M R m, S.nd, wrap64 (S.dp - ((R : Int) - 1)), S.neg, S.lost M R t⟩)
        case atStart => exact ⟨j, j, by omega, by omega, rfl, by omega, rfl, rfl, HT1.out, by rw [S.lost_small M R j (by omega)]; exact HD1.out⟩
        case round =>
          obtain ⟨t, m, ht1, ht2, hg, hm, rfl, rfl, ht, hd⟩ := hrel
          have hq := HO.out.qn_lt HU.out t
          have hz : S.dg (R + t) = 0 := by unfold DS.dg; rw [if_neg (by omega)]
          have HN : S.qn M R (t + 1) = S.qn M R t % M * 10 := by
            rw [show S.qn M R (t + 1) = S.qn M R t % M * 10 + S.dg (R + t) from rfl, hz, Nat.add_zero]
          have hTt := HDN.out.2.2 t
          have hT0 := HDN.out.2.1
          obtain ⟨q, hqe⟩ : ∃ q, S.qn M R t = q := ⟨_, rfl⟩
          rw [hqe] at hq HN hTt ⊢
          have HQ := hid hqe
          have HN := hid HN
          have z800 := hd.un 800
          have k800 := hd.nd
          have z803 := hd.un 803
          have k803 := hd.tr
          have HT := hid ht
          have HD := hid hd
          simp only at k800 k803
          by_cases hq0 : q = 0
          · have htT : t = T := by
              rcases Nat.lt_or_ge t T with h1 | h1
              · exact absurd hq0 (hTt h1 (by omega))
              · omega
            subst hq0
            subst htT
            have HM2 := hid hm
            clear ht hd hTt hT0 hqe HN hm hg
            have HTR := hid (dtrim_raw _ b _ (HD.out.setN m) (by simp only; have := HM2.out; omega))
            go_wp2_with (go_at_call 170; refine (HTR.out).mono ?_; rintro e w9 ⟨rfl, t9, d9⟩)
            go_end0
            refine ⟨rfl, (At1.set HT.out _ _).then t9, ?_⟩
            have e : S.shr M R t = DS.trim ⟨S.over M R m, m, wrap64 (S.dp - ((R : Int) - 1)), S.neg, S.lost M R t⟩ := by
              rw [HM2.out]; rfl
            rw [e]
            exact d9
          · have htT : t < T := by
              rcases Nat.lt_or_ge t T with h1 | h1
              · exact h1
              · have : t = T := by omega
                subst this
                rw [hqe] at hT0
                exact absurd hT0 hq0
            have hqp : (0 : Int) < (q : Int) := by omega
            have hmk := and_mask q M k hk HM.out (by omega)
            rw [Int.natCast_emod] at hmk
            have hqm0 : 0 ≤ (q : Int) % (M : Int) := Int.emod_nonneg _ (by omega)
            have hqm1 : (q : Int) % (M : Int) < (M : Int) := Int.emod_lt_of_pos _ (by omega)
            have hqd0 : 0 ≤ (q : Int) / (M : Int) := Int.ediv_nonneg (by omega) (by omega)
            have hqd9 : (q : Int) / (M : Int) ≤ 9 := by
              have := (Nat.div_lt_iff_lt_mul (by omega : 0 < M)).2 hq
              rw [← Int.natCast_ediv]; omega
            have HV : Hid (((S.qn M R (t + 1) : Nat) : Int) = (q : Int) % (M : Int) * 10) := hid (by rw [HN.out, Int.natCast_mul, Int.natCast_emod]; rfl)
            have HG := hid hg
            have HMT := hid hm
            clear hg
            by_cases ht8 : t < 800
            · have hmt : m = t := by omega
              subst hmt
              have kw := hd.d m (by omega)
              have zw := hd.un m
              simp only at kw
              have hm8 : (m : Int) < 800 := by omega
              have HL1 : Hid (S.lost M R (m + 1) = S.lost M R m) := hid (by rw [DS.lost, if_neg (by omega)])
              clear ht hd hTt hT0 hqe hm
              go_wp2_with fail
              have hd2 := HD.out.setD m (((S.qn M R m / M : Nat) : Int) + 48) (by omega)
              rw [DS.over_put, HQ.out, Int.natCast_ediv] at hd2
              go_roundg (T - (m + 1))
              case measure => have := HG.out; omega
              case rel => exact ⟨m + 1, m + 1, by omega, by omega, rfl, by omega, by go_num, by rw [HV.out], At1.set HT.out _ _, by rw [HL1.out]; exact hd2⟩
            · have hmt : m = 800 := by omega
              subst hmt
              have HL1 : Hid (S.lost M R (t + 1) = (S.lost M R t || decide (0 < q / M))) := hid (by rw [DS.lost, if_pos (by omega), HQ.out])
              clear hm
              by_cases hdz : 0 < (q : Int) / (M : Int)
              · have hdz' : 0 < q / M := by rw [← Int.natCast_ediv] at hdz; omega
                clear ht hd hTt hT0 hqe
                go_wp2_with fail
                have hd2 := HD.out.setT true
                go_roundg (T - (t + 1))
                case measure => have := HG.out; omega
                case rel => exact ⟨t + 1, 800, by omega, by omega, rfl, by omega, rfl, by rw [HV.out], At1.set HT.out _ _, by rw [HL1.out, decide_eq_true hdz', Bool.or_true]; exact hd2⟩
              · rw [Int.not_lt] at hdz
                have hdz' : ¬ 0 < q / M := by rw [← Int.natCast_ediv] at hdz; omega
                clear ht hd hTt hT0 hqe
                go_wp2_with fail
                go_roundg (T - (t + 1))
                case measure => have := HG.out; omega
                case rel => exact ⟨t + 1, 800, by omega, by omega, rfl, by omega, rfl, by rw [HV.out], HT.out, by rw [HL1.out, decide_eq_false hdz', Bool.or_false]; exact HD.out⟩
end Go.Proofs.YtcmhfeeocehlaaaGreatDoor
namespace Go.Proofs.YtcmhfeeocehlaaaGreatDoor
set_option linter.unusedSimpArgs false
set_option linter.unusedVariables false
open Go.RowKit Go.PlainAid

theorem trimN_pos (D : Nat → Int) (h : D 0 ≠ 48) : ∀ n, 1 ≤ n → 1 ≤ trimN D n
  | 0, h0 => by omega
  | 1, _ => by unfold trimN; rw [if_neg h]; exact Nat.le_refl _
  | n + 2, _ => by
    unfold trimN
    split
    · exact trimN_pos D h (n + 1) (by omega)
    · omega
theorem DS.trim_ok (S : DS) (h : S.Ok) : S.trim.Ok ∧ S.trim.dp = S.dp ∧ S.trim.D = S.D ∧ S.trim.neg = S.neg := by
  have h1 := trimN_pos S.D (by have := h.first; omega) S.nd h.pos
  have h2 := trimN_le S.D S.nd
  refine ⟨⟨h1, Nat.le_trans h2 h.le, fun i hi => h.dig i (Nat.lt_of_lt_of_le hi h2), h.first⟩, ?_, rfl, rfl⟩
  show (if trimN S.D S.nd = 0 then 0 else S.dp) = S.dp
  rw [if_neg (by omega)]
theorem DS.Ok.up_le {S : DS} (h : S.Ok) {M R : Nat} (hu : S.Up M R) (hM : M ≤ 1152921504606846976) : R ≤ 20 := by
  rcases Nat.lt_or_ge 20 R with h1 | h1
  · have h2 := h.pn_pos (R - 1) (by omega)
    have h3 : 10 ^ 19 ≤ 10 ^ (R - 1 - 1) := Nat.pow_le_pow_right (by decide) (by omega)
    have := hu.2.1
    have : (10 : Nat) ^ 19 = 10000000000000000000 := by decide
    omega
  · exact h1
theorem DS.Ok.down_pos {S : DS} (h : S.Ok) {M R T : Nat} (hu : S.Up M R) (hd : S.Down M R T) (hM : 1 ≤ M) : 1 ≤ T := by
  rcases Nat.eq_zero_or_pos T with h0 | h0
  · subst h0
    have h1 := hd.2.1
    have h2 := hu.2.2
    have h3 : S.qn M R 0 = S.pn R := rfl
    omega
  · exact h0
/-- rightShift, as steps of a decimal -/
theorem rshift_ex (S : DS) (ok : S.Ok) (k : Nat) (hk1 : 1 ≤ k) (hk : k ≤ 60) (hdp : -1000000 ≤ S.dp ∧ S.dp ≤ 1000000) :
    ∃ S' : DS, S'.Ok ∧ S'.neg = S.neg ∧ S.dp - 20 ≤ S'.dp ∧ (S'.dp < S.dp ∨ (S'.dp = S.dp ∧ S'.D 0 < S.D 0)) ∧ ∀ (b : Nat) (w : World), DecAt w b S →
      Calls Tryz.prog 162 #[.pointer (some ⟨b, 0, none⟩), .int .u64 (k : Int)] w fun e w' => e = .returned (.tuple #[]) ∧ Tn (At1 b) w w' ∧ DecAt w' b S' := by
  have hM1 : 1 ≤ 2 ^ k := Nat.one_le_two_pow
  have hM2 : 2 ≤ 2 ^ k := by have := Nat.pow_le_pow_right (n := 2) (by decide) hk1; omega
  have hM60 : 2 ^ k ≤ 1152921504606846976 := Nat.le_trans (Nat.pow_le_pow_right (by decide) hk) (by decide)
  obtain ⟨R, hR⟩ := ok.up_ex (2 ^ k) hM1
  obtain ⟨T, hTb, hT⟩ := S.down_ex k R
  have hR20 := ok.up_le hR hM60
  have hT1 := ok.down_pos hR hT hM1
  have hle := ok.le
  have hR1 := hR.1
  have hw : wrap64 (S.dp - ((R : Int) - 1)) = S.dp - ((R : Int) - 1) := by unfold wrap64; omega
  have hq0 : S.qn (2 ^ k) R 0 / 2 ^ k = S.pn R / 2 ^ k := rfl
  have hd1 : 1 ≤ S.pn R / 2 ^ k := Nat.div_pos hR.2.2 (by omega)
  have ok2 : DS.Ok ⟨S.over (2 ^ k) R (min T 800), min T 800, wrap64 (S.dp - ((R : Int) - 1)), S.neg, S.lost (2 ^ k) R T⟩ := by
    refine ⟨by simp only; omega, by simp only; omega, fun i hi => ?_, ?_⟩
    · simp only at hi ⊢
      unfold DS.over
      rw [if_pos hi]
      have := ok.qn_lt hR i
      have h9 := (Nat.div_lt_iff_lt_mul (by omega : 0 < 2 ^ k)).2 this
      generalize S.qn (2 ^ k) R i / 2 ^ k = v at h9 ⊢
      omega
    · simp only
      unfold DS.over
      rw [if_pos (by omega), hq0]
      omega
  obtain ⟨t1, t2, t3, t4⟩ := DS.trim_ok _ ok2
  refine ⟨S.shr (2 ^ k) R T, t1, t4, ?_, ?_, fun b w h => rshift_raw S k (2 ^ k) R T b w h ok hk rfl hR hT (by omega) (by omega)⟩
  · show S.dp - 20 ≤ (DS.trim _).dp
    rw [t2]; simp only; rw [hw]; omega
  · rcases Nat.lt_or_ge 1 R with h1 | h1
    · left
      show (DS.trim _).dp < S.dp
      rw [t2]; simp only; rw [hw]; omega
    · right
      have e : R = 1 := by omega
      subst e
      refine ⟨?_, ?_⟩
      · show (DS.trim _).dp = S.dp
        rw [t2]; simp only; rw [hw]; omega
      · show (DS.trim _).D 0 < S.D 0
        rw [t3]; simp only
        unfold DS.over
        rw [if_pos (by omega), hq0]
        have h0 := ok.dgE ok.pos
        have hp : S.pn 1 = S.dg 0 := by show S.pn 0 * 10 + S.dg 0 = S.dg 0; simp [DS.pn]
        rw [hp]
        have hf := ok.first
        have : S.dg 0 / 2 ^ k < S.dg 0 := Nat.div_lt_self (by omega) (by omega)
        omega
end Go.Proofs.YtcmhfeeocehlaaaGreatDoor
namespace Go.Proofs.YtcmhfeeocehlaaaGreatDoor
set_option linter.unusedSimpArgs false
set_option linter.unusedVariables false
open Go.RowKit Go.PlainAid

/-- a digit, counted from the last -/
def DS.dr (S : DS) (j : Nat) : Nat := if j < S.nd then S.dg (S.nd - 1 - j) else 0
/-- what is carried when j digits have been taken -/
def DS.cn (S : DS) (M : Nat) : Nat → Nat
  | 0 => 0
  | j + 1 => (S.cn M j + S.dr j * M) / 10
def DS.sn (S : DS) : Nat → Nat
  | 0 => 0
  | j + 1 => S.sn j + S.dr j * 10 ^ j
theorem DS.Ok.dr9 {S : DS} (h : S.Ok) (j : Nat) : S.dr j ≤ 9 := by
  unfold DS.dr; split
  · exact h.dg9 _
  · omega
theorem DS.Ok.sn_lt {S : DS} (h : S.Ok) : ∀ j, S.sn j < 10 ^ j
  | 0 => by simp [DS.sn]
  | j + 1 => by
    show S.sn j + S.dr j * 10 ^ j < 10 ^ (j + 1)
    have ih := h.sn_lt j
    have h9 := Nat.mul_le_mul_right (10 ^ j) (h.dr9 j)
    rw [Nat.pow_succ]; omega
theorem DS.cn_eq (S : DS) (M : Nat) : ∀ j, S.cn M j = S.sn j * M / 10 ^ j
  | 0 => by simp [DS.cn, DS.sn]
  | j + 1 => by
    show (S.cn M j + S.dr j * M) / 10 = (S.sn j + S.dr j * 10 ^ j) * M / 10 ^ (j + 1)
    have p : 0 < 10 ^ j := Nat.pow_pos (by decide)
    rw [S.cn_eq M j, Nat.pow_succ, ← Nat.div_div_eq_div_mul, Nat.add_mul, show S.dr j * 10 ^ j * M = 10 ^ j * (S.dr j * M) by rw [Nat.mul_comm (S.dr j), Nat.mul_assoc], Nat.add_mul_div_left _ _ p]
theorem DS.Ok.cn_lt {S : DS} (h : S.Ok) {M : Nat} (hM : 1 ≤ M) (j : Nat) : S.cn M j < M := by
  rw [S.cn_eq M j]
  refine (Nat.div_lt_iff_lt_mul (Nat.pow_pos (by decide))).2 ?_
  rw [Nat.mul_comm M]
  exact Nat.mul_lt_mul_of_pos_right (h.sn_lt j) (by omega)
/-- the word at the j'th digit -/
def DS.xn (S : DS) (M j : Nat) : Nat := S.cn M j + S.dr j * M
theorem DS.Ok.xn_lt {S : DS} (h : S.Ok) {M : Nat} (hM : 1 ≤ M) (j : Nat) : S.xn M j < 10 * M := by
  have h1 := h.cn_lt hM j
  have h2 := Nat.mul_le_mul_right M (h.dr9 j)
  unfold DS.xn; omega
theorem DS.cn_succ (S : DS) (M j : Nat) : S.cn M (j + 1) = S.xn M j / 10 := rfl
theorem DS.pn_sn (S : DS) : ∀ t, t ≤ S.nd → S.pn S.nd = S.pn (S.nd - t) * 10 ^ t + S.sn t
  | 0, _ => by simp [DS.sn]
  | t + 1, ht => by
    have ih := S.pn_sn t (by omega)
    have e : S.pn (S.nd - t) = S.pn (S.nd - (t + 1)) * 10 + S.dg (S.nd - (t + 1)) := by
      rw [show S.nd - t = (S.nd - (t + 1)) + 1 by omega]; rfl
    have e2 : S.sn (t + 1) = S.sn t + S.dg (S.nd - (t + 1)) * 10 ^ t := by
      show S.sn t + S.dr t * 10 ^ t = _
      unfold DS.dr
      rw [if_pos (by omega), show S.nd - 1 - t = S.nd - (t + 1) by omega]
    rw [ih, e, e2, Nat.pow_succ, Nat.add_mul, ← Nat.mul_assoc, Nat.mul_right_comm]
    omega
theorem DS.sn_all (S : DS) : S.sn S.nd = S.pn S.nd := by
  have := S.pn_sn S.nd (Nat.le_refl _)
  simp [DS.pn] at this
  exact this.symm
/-- a cutoff and its number of digits belong to the shift by k -/
structure Cheat (k d0 : Nat) (c : ByteArray) : Prop where
  cut : Cut c
  first : 49 ≤ bt c 0
  val : cv c c.size = 5 ^ k
  sum : d0 + c.size = k + 1
theorem Cheat.lo {k d0 : Nat} {c : ByteArray} (h : Cheat k d0 c) : 10 ^ (c.size - 1) ≤ 5 ^ k := by
  have h1 := (h.cut.cv_up 1 (c.size - 1) (by have := h.cut.pos; omega)).1
  rw [show 1 + (c.size - 1) = c.size by have := h.cut.pos; omega, h.val] at h1
  have h2 : 1 ≤ cv c 1 := by
    have e : cv c 1 = cv c 0 * 10 + (bt c 0 - 48).toNat := rfl
    have := h.first
    rw [e]; omega
  have := Nat.mul_le_mul_right (10 ^ (c.size - 1)) h2
  omega
theorem Cheat.hi {k d0 : Nat} {c : ByteArray} (h : Cheat k d0 c) : 5 ^ k < 10 ^ c.size := by
  have h1 := (h.cut.cv_up 0 c.size (by omega)).2
  rw [Nat.zero_add, h.val] at h1
  simp [cv] at h1
  omega
theorem five_two (k : Nat) : 5 ^ k * 2 ^ k = 10 ^ k := by rw [← Nat.mul_pow]
/-- the digits that a shift adds: delta, one less where prefixIsLessThan says so -/
def DS.dl (S : DS) (d0 : Nat) (c : ByteArray) : Nat := if S.pl c 0 = true then d0 - 1 else d0
theorem DS.Ok.dl_num {S : DS} (h : S.Ok) {k d0 : Nat} {c : ByteArray} (hc : Cheat k d0 c) (hd0 : 1 ≤ d0) :
    S.sn S.nd * 2 ^ k < 10 ^ (S.dl d0 c) * 10 ^ S.nd ∧ (1 ≤ S.dl d0 c → 10 ^ (S.dl d0 c - 1) * 10 ^ S.nd ≤ S.sn S.nd * 2 ^ k) := by
  have hp := h.pl_num hc.cut c.size 0 (by omega) (by omega) (by omega) rfl
  rw [hc.val] at hp
  rw [S.sn_all]
  have hL := hc.cut.pos
  have hs := hc.sum
  have f2 := five_two k
  have lo := hc.lo
  have hi := hc.hi
  have hup : S.pn S.nd < 10 ^ S.nd := by rw [← S.sn_all]; exact h.sn_lt _
  have hlo : 10 ^ (S.nd - 1) ≤ S.pn S.nd := h.pn_pos S.nd h.pos
  have pL : 0 < 10 ^ c.size := Nat.pow_pos (by decide)
  have p2 : 0 < 2 ^ k := Nat.pow_pos (by decide)
  have pn : 0 < 10 ^ S.nd := Nat.pow_pos (by decide)
  -- 2 ^ k lies between two powers of ten
  have b1 : 2 ^ k ≤ 10 ^ d0 := by
    have h1 := Nat.mul_le_mul_right (2 ^ k) lo
    rw [f2, show k = (c.size - 1) + d0 by omega, Nat.pow_add 10] at h1
    rw [show (c.size - 1) + d0 = k by omega] at h1
    exact Nat.le_of_mul_le_mul_left h1 (Nat.pow_pos (by decide))
  have b2 : 10 ^ (d0 - 1) < 2 ^ k := by
    have h1 := Nat.mul_lt_mul_of_pos_right hi p2
    rw [f2, show 10 ^ k = 10 ^ c.size * 10 ^ (d0 - 1) by rw [← Nat.pow_add]; congr 1; omega] at h1
    exact Nat.lt_of_mul_lt_mul_left h1
  unfold DS.dl
  cases hpl : S.pl c 0 with
  | true =>
    rw [if_pos rfl]
    have h1 := hp.1 hpl
    refine ⟨?_, fun hd => ?_⟩
    · have h2 := Nat.mul_lt_mul_of_pos_right h1 p2
      rw [Nat.mul_right_comm (5 ^ k), f2, show 10 ^ k = 10 ^ (d0 - 1) * 10 ^ c.size by rw [← Nat.pow_add]; congr 1; omega, Nat.mul_right_comm (S.pn S.nd), Nat.mul_right_comm (10 ^ (d0 - 1))] at h2
      exact Nat.lt_of_mul_lt_mul_right h2
    · have h2 := Nat.mul_le_mul hlo (Nat.le_of_lt b2)
      rw [← Nat.pow_add] at h2
      rw [← Nat.pow_add, show d0 - 1 - 1 + S.nd = S.nd - 1 + (d0 - 1) by have := h.pos; omega]
      exact h2
  | false =>
    rw [if_neg (by simp)]
    have h1 := hp.2 hpl
    refine ⟨?_, fun hd => ?_⟩
    · rw [Nat.mul_comm (10 ^ d0)]
      exact Nat.lt_of_lt_of_le (Nat.mul_lt_mul_of_pos_right hup p2) (Nat.mul_le_mul_left _ b1)
    · have h2 := Nat.mul_le_mul_right (2 ^ k) h1
      rw [Nat.mul_right_comm (5 ^ k), f2, show 10 ^ k = 10 ^ (d0 - 1) * 10 ^ c.size by rw [← Nat.pow_add]; congr 1; omega, Nat.mul_right_comm (S.pn S.nd), Nat.mul_right_comm (10 ^ (d0 - 1))] at h2
      exact Nat.le_of_mul_le_mul_right h2 pL
end Go.Proofs.YtcmhfeeocehlaaaGreatDoor
