/-
  strconv.ParseFloat: leftShift: what comes of it is a decimal again, and more.
-/
import Derived.Test.YtcmhfeeocehlaaaGreatDoorPF13
import Derived.ScopeJumps
import Derived.Test.YtcmhfeeocehlaaaGreatDoorPFB
namespace Go.Proofs.YtcmhfeeocehlaaaGreatDoor
set_option linter.unusedSimpArgs false
set_option linter.unusedVariables false
open Go.RowKit Go.PlainAid

/-- leftShift, as a step of a decimal -/
theorem lshift_ex (S : DS) (ok : S.Ok) (k d0 : Nat) (c : ByteArray) (hc : Cheat k d0 c) (hd0 : 1 ≤ d0) (hd19 : d0 ≤ 19) (hk1 : 1 ≤ k) (hk : k ≤ 60) (hdp : -1000000 ≤ S.dp ∧ S.dp ≤ 1000000) :
    ∃ S' : DS, S'.Ok ∧ S'.neg = S.neg ∧ S'.dp ≤ S.dp + 20 ∧ (S.dp < S'.dp ∨ (S'.dp = S.dp ∧ S.D 0 < S'.D 0)) ∧ ∀ (b g o : Nat) (w : World), DecAt w b S →
      w.cell? ⟨13, 0, none⟩ = some (.slice (some ⟨g, o, none⟩) 61 61) → w.cell? ⟨g, o + k * 2, none⟩ = some (.int .i64 (d0 : Int)) → w.cell? ⟨g, o + k * 2 + 1, none⟩ = some (.string c) →
      Calls Tryz.prog 161 #[.pointer (some ⟨b, 0, none⟩), .int .u64 (k : Int)] w fun e w' => e = .returned (.tuple #[]) ∧ Tn (At1 b) w w' ∧ DecAt w' b S' := by
  have hM1 : 1 ≤ 2 ^ k := Nat.one_le_two_pow
  have hM2 : 2 ≤ 2 ^ k := by have := Nat.pow_le_pow_right (n := 2) (by decide) hk1; omega
  obtain ⟨E, hE⟩ : ∃ E, E = S.nd + S.dl d0 c := ⟨_, rfl⟩
  have hen : S.Ends (2 ^ k) E := by rw [hE]; exact ok.ends hc hd0
  have hdl : S.dl d0 c ≤ d0 := by unfold DS.dl; split <;> omega
  have hle := ok.le
  have hpos := ok.pos
  have hw : wrap64 (S.dp + ((E : Int) - S.nd)) = S.dp + ((E : Int) - S.nd) := by unfold wrap64; omega
  -- the first digit
  have hx10 : S.xn (2 ^ k) (E - 1) < 10 := by
    have h0 := hen.nought
    rw [show E = (E - 1) + 1 by omega, S.cn_succ] at h0
    omega
  have hfirst : S.left (2 ^ k) E E 0 = (S.xn (2 ^ k) (E - 1) : Int) + 48 := by
    unfold DS.left
    rw [if_pos (by omega), Nat.sub_zero, Nat.mod_eq_of_lt hx10]
  have hxp : 1 ≤ S.xn (2 ^ k) (E - 1) ∧ (E = S.nd → S.D 0 < (S.xn (2 ^ k) (E - 1) : Int) + 48) := by
    rcases Nat.lt_or_ge S.nd E with h1 | h1
    · have h2 := hen.more (E - 1) (by omega) (by omega)
      have h3 : S.cn (2 ^ k) (E - 1) ≤ S.xn (2 ^ k) (E - 1) := by unfold DS.xn; omega
      exact ⟨by omega, fun h => by omega⟩
    · have hEn : E = S.nd := by have := hen.le; omega
      have hdr : S.dr (E - 1) = S.dg 0 := by
        unfold DS.dr; rw [if_pos (by omega), show S.nd - 1 - (E - 1) = 0 by omega]
      have hD := ok.dgE hpos
      have hf := ok.first
      have h4 : S.dg 0 * 2 ≤ S.dr (E - 1) * 2 ^ k := by rw [hdr]; exact Nat.mul_le_mul_left _ hM2
      have h5 : S.dr (E - 1) * 2 ^ k ≤ S.xn (2 ^ k) (E - 1) := by unfold DS.xn; omega
      exact ⟨by omega, fun _ => by omega⟩
  have ok2 : DS.Ok ⟨S.left (2 ^ k) E E, min E 800, wrap64 (S.dp + ((E : Int) - S.nd)), S.neg, S.lostL (2 ^ k) E E⟩ := by
    refine ⟨by simp only; omega, by simp only; omega, fun i hi => ?_, ?_⟩
    · simp only at hi ⊢
      unfold DS.left
      rw [if_pos (by omega)]
      generalize S.xn (2 ^ k) (E - 1 - i) = v
      omega
    · simp only
      rw [hfirst]; omega
  obtain ⟨t1, t2, t3, t4⟩ := DS.trim_ok _ ok2
  refine ⟨S.shl (2 ^ k) E, t1, t4, ?_, ?_, fun b g o w h g1 g2 g3 => lshift_raw S k (2 ^ k) d0 g o b c w h ok hk rfl hc hd0 hd19 E hE g1 g2 g3⟩
  · show (DS.trim _).dp ≤ S.dp + 20
    rw [t2]; simp only; rw [hw]; omega
  · rcases Nat.lt_or_ge S.nd E with h1 | h1
    · left
      show S.dp < (DS.trim _).dp
      rw [t2]; simp only; rw [hw]; omega
    · have hEn : E = S.nd := by have := hen.le; omega
      right
      refine ⟨?_, ?_⟩
      · show (DS.trim _).dp = S.dp
        rw [t2]; simp only; rw [hw]; omega
      · show S.D 0 < (DS.trim _).D 0
        rw [t3]; simp only
        rw [hfirst]
        exact hxp.2 hEn
end Go.Proofs.YtcmhfeeocehlaaaGreatDoor
namespace Go.Proofs.YtcmhfeeocehlaaaGreatDoor
set_option linter.unusedSimpArgs false
set_option linter.unusedVariables false
open Go.RowKit Go.PlainAid
attribute [local go_sem ↓] Go.wp_at_zero Go.wp_at_succ

/-- the table of the left shifts -/
def ChOk (ch : Nat → Nat × ByteArray) : Prop := ∀ k, 1 ≤ k → k ≤ 60 → Cheat k (ch k).1 (ch k).2 ∧ 1 ≤ (ch k).1 ∧ (ch k).1 ≤ 19
/-- it lies in memory -/
structure G13 (ch : Nat → Nat × ByteArray) (w : World) (g : Nat × Nat) : Prop where
  var : w.cell? ⟨13, 0, none⟩ = some (.slice (some ⟨g.1, g.2, none⟩) 61 61)
  row : ∀ k, k ≤ 60 → w.cell? ⟨g.1, g.2 + k * 2, none⟩ = some (.int .i64 ((ch k).1 : Int)) ∧ w.cell? ⟨g.1, g.2 + k * 2 + 1, none⟩ = some (.string (ch k).2)

set_option maxHeartbeats 4000000 in
set_option maxRecDepth 100000 in
theorem shiftUp_ex (ch : Nat → Nat × ByteArray) (hch : ChOk ch) (S : DS) (ok : S.Ok) (n : Nat) (hn1 : 1 ≤ n) (hn : n ≤ 60) (hdp : -1000000 ≤ S.dp ∧ S.dp ≤ 1000000) :
    ∃ S' : DS, S'.Ok ∧ S'.neg = S.neg ∧ S'.dp ≤ S.dp + 20 ∧ (S.dp < S'.dp ∨ (S'.dp = S.dp ∧ S.D 0 < S'.D 0)) ∧ ∀ (b : Nat) (g : Nat × Nat) (w : World), DecAt w b S → G13 ch w g →
      Calls Tryz.prog 150 #[.pointer (some ⟨b, 0, none⟩), .int .i64 (n : Int)] w fun e w' => e = .returned (.tuple #[]) ∧ Tn (At1 b) w w' ∧ DecAt w' b S' := by
  obtain ⟨hc, c1, c19⟩ := hch n hn1 hn
  obtain ⟨S', p1, p2, p3, p4, p5⟩ := lshift_ex S ok n _ _ hc c1 c19 hn1 hn hdp
  refine ⟨S', p1, p2, p3, p4, fun b g w h hg => ?_⟩
  obtain ⟨r1, r2⟩ := hg.row n hn
  have HC := hid (p5 b g.1 g.2 w h hg.var r1 r2)
  have k1 := h.nd
  have hz : ¬ (S.nd : Int) = 0 := by have := ok.pos; omega
  have hn0 : (0 : Int) < (n : Int) := by omega
  have hn60 : (n : Int) ≤ 60 := by omega
  have hzb : ((S.nd : Int) == 0) = false := by simpa using hz
  clear h hg r1 r2 p5 hc
  go_enter Tryz.func150, Tryz.ntmps150
  go_wp2_with fail
  go_loop [1] (fun v1 => v1 = .int .i64 (n : Int)) (fun _ => 0)
  case atStart => rfl
  case round =>
    subst hrel
    go_wp2_with (go_at_call 161; refine (HC.out).mono ?_; rintro e w1 ⟨rfl, t1, d1⟩)
    go_end0
    exact ⟨rfl, t1, d1⟩

set_option maxHeartbeats 4000000 in
set_option maxRecDepth 100000 in
theorem shiftDown_ex (S : DS) (ok : S.Ok) (n : Nat) (hn1 : 1 ≤ n) (hn : n ≤ 300000) (hdp : -500000 ≤ S.dp ∧ S.dp ≤ 1000000) :
    ∃ S' : DS, S'.Ok ∧ S'.neg = S.neg ∧ S.dp - 20 * ((n / 60 : Nat) + 1) ≤ S'.dp ∧ (S'.dp < S.dp ∨ (S'.dp = S.dp ∧ S'.D 0 < S.D 0)) ∧ ∀ (b : Nat) (w : World), DecAt w b S →
      Calls Tryz.prog 150 #[.pointer (some ⟨b, 0, none⟩), .int .i64 (-(n : Int))] w fun e w' => e = .returned (.tuple #[]) ∧ Tn (At1 b) w w' ∧ DecAt w' b S' := by
  have hs : ∀ T : DS, ∃ T' : DS, T.Ok → (-1000000 ≤ T.dp ∧ T.dp ≤ 1000000) → (T'.Ok ∧ T'.neg = T.neg ∧ T.dp - 20 ≤ T'.dp ∧ (T'.dp < T.dp ∨ (T'.dp = T.dp ∧ T'.D 0 < T.D 0)) ∧ ∀ (b : Nat) (w : World), DecAt w b T →
      Calls Tryz.prog 162 #[.pointer (some ⟨b, 0, none⟩), .int .u64 ((60 : Nat) : Int)] w fun e w' => e = .returned (.tuple #[]) ∧ Tn (At1 b) w w' ∧ DecAt w' b T') := by
    intro T
    by_cases h : T.Ok ∧ (-1000000 ≤ T.dp ∧ T.dp ≤ 1000000)
    · obtain ⟨T', hT'⟩ := rshift_ex T h.1 60 (by omega) (by omega) h.2
      exact ⟨T', fun _ _ => hT'⟩
    · exact ⟨T, fun a b => absurd ⟨a, b⟩ h⟩
  obtain ⟨st, hst⟩ := Classical.skolem.mp hs
  obtain ⟨f, hf0, hfs⟩ : ∃ f : Nat → DS, f 0 = S ∧ ∀ i, f (i + 1) = st (f i) := ⟨fun i => Nat.rec S (fun _ T => st T) i, rfl, fun i => rfl⟩
  have hf : ∀ i, i ≤ 5000 → (f i).Ok ∧ (f i).neg = S.neg ∧ S.dp - 20 * i ≤ (f i).dp ∧ ((f i).dp < S.dp ∨ ((f i).dp = S.dp ∧ (f i).D 0 ≤ S.D 0)) := by
    intro i
    induction i with
    | zero => intro _; rw [hf0]; exact ⟨ok, rfl, by omega, Or.inr ⟨rfl, Int.le_refl _⟩⟩
    | succ i ih =>
      intro hi
      obtain ⟨a1, a2, a3, a4⟩ := ih (by omega)
      obtain ⟨b1, b2, b3, b4, _⟩ := hst (f i) a1 (by omega)
      rw [hfs]
      exact ⟨b1, b2.trans a2, by omega, by omega⟩
  obtain ⟨m, r, hmr, hr1, hr60⟩ : ∃ m r : Nat, n = 60 * m + r ∧ 1 ≤ r ∧ r ≤ 60 := ⟨(n - 1) / 60, n - 60 * ((n - 1) / 60), by omega, by omega, by omega⟩
  have hm60 : m ≤ 5000 := by omega
  obtain ⟨a1, a2, a3, a4⟩ := hf m hm60
  obtain ⟨S', p1, p2, p3, p4, p5⟩ := rshift_ex (f m) a1 r hr1 hr60 (by omega)
  refine ⟨S', p1, p2.trans a2, by omega, by omega, fun b w h => ?_⟩
  have k1 := h.nd
  have hz : ¬ (S.nd : Int) = 0 := by have := ok.pos; omega
  have hzb : ((S.nd : Int) == 0) = false := by simpa using hz
  have hn0 : -(n : Int) < 0 := by omega
  have hn0' : ¬ (0 : Int) < -(n : Int) := by omega
  have HH := hid h
  have HF := hid hf
  have HFS := hid hfs
  have HST := hid hst
  have HP := hid p5
  have HF0 := hid hf0
  have HMR := hid hmr
  clear h hf hst hfs hs p5 p4 p3 a3 a4 hf0 hmr hz
  rw [Int.not_lt] at hn0'
  have hb1 : decide (0 < n) = true := decide_eq_true (by omega)
  have hb2 : decide ((n : Int) < 0) = false := decide_eq_false (by omega)
  go_enter Tryz.func150, Tryz.ntmps150
  go_wp2_with fail
  go_loopw [1] (fun v1 wr => ∃ i : Nat, i ≤ m ∧ v1 = .int .i64 (-((n : Int) - 60 * i)) ∧ Tn (At1 b) w wr ∧ DecAt wr b (f i)) (fun v1 _ => (-(intOf v1)).toNat)
  case atStart => exact ⟨0, by omega, by simp, Tn.refl _ _, by rw [HF0.out]; exact HH.out⟩
  case round =>
    obtain ⟨i, hi, rfl, ht, hd⟩ := hrel
    have hmr := HMR.out
    obtain ⟨z, hz⟩ : ∃ z : Int, -((n : Int) - 60 * i) = z := ⟨_, rfl⟩
    rw [hz]
    have HT := hid ht
    by_cases him : i < m
    · have hz60 : z < -60 := by omega
      have hzlo : -300000 ≤ z := by omega
      obtain ⟨b1, b2, b3, b4, b5⟩ := HST.out (f i) (HF.out i (by omega)).1 (by have := (HF.out i (by omega)).2.2; omega)
      have HC := hid (b5 b wr hd)
      clear ht hd b5 b4 b3 hmr
      have HZ := hid hz
      clear hz
      go_wp2_with (go_at_call 162; refine (HC.out).mono ?_; rintro e w1 ⟨rfl, t1, d1⟩)
      have hz := HZ.out
      go_roundw
      case rel => exact ⟨i + 1, by omega, by congr 1; omega, HT.out.then t1, by rw [HFS.out]; exact d1⟩
      case measure => simp [intOf]; omega
    · have him' : i = m := by omega
      subst him'
      have hzr : z = -(r : Int) := by omega
      subst hzr
      have hz60 : (-60 : Int) ≤ -(r : Int) := by omega
      have HC := hid (HP.out b wr hd)
      have hrr : - -(r : Int) = (r : Int) := by omega
      clear ht hd hmr hz
      go_wp2_with (go_at_call 162; refine (HC.out).mono ?_; rintro e w1 ⟨rfl, t1, d1⟩)
      go_end0
      exact ⟨rfl, HT.out.then t1, d1⟩
end Go.Proofs.YtcmhfeeocehlaaaGreatDoor
namespace Go.Proofs.YtcmhfeeocehlaaaGreatDoor
set_option linter.unusedSimpArgs false
set_option linter.unusedVariables false
open Go.RowKit Go.PlainAid

/-- As Q; by a goto to label l: J; to label m: K; by any other: no way out. -/
def two (l : Nat) (J : Act → World → Prop) (m : Nat) (K : Act → World → Prop) (Q : Exit → Act → World → Prop) : Exit → Act → World → Prop
  | .goto x, a, w => (x = l ∧ J a w) ∨ (x = m ∧ K a w)
  | e, a, w => Q e a w

theorem wp_scope_fwd {P : Program} {a : Act} {w : World} {Q : Exit → Act → World → Prop} {c r1 r2 : Code} (l m : Nat) (h1 : findLabel c l = some r1) (h2 : findLabel c m = some r2)
    (first : c.wp P (two l (fun a w => r1.wp P (Exit.noGoto Q) a w) m (fun a w => r2.wp P (Exit.noGoto Q) a w) Q) a w) : (Code.scope c).wp P Q a w := by
  intro b k cs
  have hg1 : gotoIn l (.inScope c :: k) = some (.code r1 :: .inScope c :: k) := by simp [gotoIn, h1]
  have hg2 : gotoIn m (.inScope c :: k) = some (.code r2 :: .inScope c :: k) := by simp [gotoIn, h2]
  have key : ∀ (r : Code) a w, r.wp P (Exit.noGoto Q) a w → ∃ e a' w', Q e a' w' ∧ Arrives P (lone (b.at a (.code r :: .inScope c :: k)) cs w) b k cs e a' w' := by
    intro r a w hJ
    obtain ⟨e, a₁, w₁, hq, harr⟩ := hJ b (.inScope c :: k) cs
    cases e with
    | normal => exact ⟨.normal, a₁, w₁, hq, Steps.trans harr (.one step_inScope)⟩
    | exit id => exact ⟨.exit id, a₁, w₁, hq, fun k' hk => harr k' (by simp [exitTo, hk])⟩
    | goto l' => exact hq.elim
    | ret => exact ⟨_, a₁, w₁, hq, harr⟩
    | panic ch => exact ⟨_, a₁, w₁, hq, harr⟩
    | outgrown => exact ⟨_, a₁, w₁, hq, harr⟩
  obtain ⟨e, a₁, w₁, hq, harr⟩ := first b (.inScope c :: k) cs
  cases e with
  | normal => exact ⟨.normal, a₁, w₁, hq, .head step_scope (Steps.trans harr (.one step_inScope))⟩
  | exit id => exact ⟨.exit id, a₁, w₁, hq, fun k' hk => .head step_scope (harr k' (by simp [exitTo, hk]))⟩
  | goto l' =>
    rcases hq with ⟨rfl, hq⟩ | ⟨rfl, hq⟩
    · obtain ⟨e₂, a₂, w₂, hq₂, harr₂⟩ := key r1 a₁ w₁ hq
      exact ⟨e₂, a₂, w₂, hq₂, .of_steps (.head step_scope (harr _ hg1)) harr₂⟩
    · obtain ⟨e₂, a₂, w₂, hq₂, harr₂⟩ := key r2 a₁ w₁ hq
      exact ⟨e₂, a₂, w₂, hq₂, .of_steps (.head step_scope (harr _ hg2)) harr₂⟩
  | ret => exact ⟨_, a₁, w₁, hq, .of_steps (.one step_scope) harr⟩
  | panic ch => exact ⟨_, a₁, w₁, hq, .of_steps (.one step_scope) harr⟩
  | outgrown => exact ⟨_, a₁, w₁, hq, .of_steps (.one step_scope) harr⟩
end Go.Proofs.YtcmhfeeocehlaaaGreatDoor
namespace Go.Proofs.YtcmhfeeocehlaaaGreatDoor
set_option linter.unusedSimpArgs false
set_option linter.unusedVariables false
open Go.RowKit Go.PlainAid
attribute [local go_sem ↓] Go.wp_at_zero Go.wp_at_succ

set_option maxHeartbeats 4000000 in
set_option maxRecDepth 100000 in
theorem rup_ex (S : DS) (ok : S.Ok) (n : Int) (hn : -1000000 ≤ n ∧ n ≤ 1000000) : ∃ v, ∀ (b : Nat) (w : World), DecAt w b S →
    Calls Tryz.prog 163 #[.pointer (some ⟨b, 0, none⟩), .int .i64 n] w fun e w' => e = .returned (.bool v) ∧ w' = w := by
  obtain ⟨hn1, hn2⟩ := hn
  by_cases h1 : n < 0
  · apply Exists.intro
    intro b w h
    have k1 := h.nd
    clear h
    go_enter Tryz.func163, Tryz.ntmps163
    go_wp2_with fail
    go_ret
    exact ⟨rfl, rfl⟩
  · rw [Int.not_lt] at h1
    obtain ⟨m, rfl⟩ : ∃ m : Nat, n = m := ⟨n.toNat, by omega⟩
    by_cases h2 : S.nd ≤ m
    · have h2' : (S.nd : Int) ≤ (m : Int) := by omega
      apply Exists.intro
      intro b w h
      have k1 := h.nd
      clear h
      go_enter Tryz.func163, Tryz.ntmps163
      go_wp2_with fail
      go_ret
      exact ⟨rfl, rfl⟩
    · have h2' : (m : Int) < (S.nd : Int) := by omega
      have hle := ok.le
      have hm8 : (m : Int) < 800 := by omega
      obtain ⟨d, hd⟩ : ∃ d, S.D m = d := ⟨_, rfl⟩
      cases h3 : (d == 53)
      · apply Exists.intro
        intro b w h
        have k1 := h.nd
        have kd := h.d m (by omega)
        rw [hd] at kd
        clear h
        go_enter Tryz.func163, Tryz.ntmps163
        go_wp2_with fail
        go_ret
        exact ⟨rfl, rfl⟩
      · by_cases h4 : m + 1 = S.nd
        · have h4b : ((m : Int) + 1 == (S.nd : Int)) = true := by simp; omega
          cases h5 : S.tr
          · by_cases h6 : m = 0
            · subst h6
              have hn1 : (S.nd : Int) = 1 := by omega
              clear h4b h2' hm8 hn2 h1
              rw [show ((0 : Nat) : Int) = 0 from rfl]
              refine ⟨false, fun b w h => ?_⟩
              have k1 := h.nd
              rw [hn1] at k1
              have kd := h.d 0 (by omega)
              have kt := h.tr
              rw [hd] at kd
              rw [h5] at kt
              clear h h2 h4 hn1 hle hd
              go_enter Tryz.func163, Tryz.ntmps163
              go_wp2_with fail
              go_ret
              exact ⟨rfl, rfl⟩
            · have h6' : (0 : Int) < (m : Int) := by omega
              have hq := ok.dig (m - 1) (by omega)
              obtain ⟨d2, hd2⟩ : ∃ d2, S.D (m - 1) = d2 := ⟨_, rfl⟩
              rw [hd2] at hq
              obtain ⟨hq1, hq2⟩ := hq
              have z1 : (0 : Int) ≤ (m : Int) - 1 := by omega
              have z2 : (m : Int) - 1 < 800 := by omega
              have z3 : ((m : Int) - 1).toNat = m - 1 := by omega
              have z4 : decide (0 < m) = true := decide_eq_true (by omega)
              apply Exists.intro
              intro b w h
              have k1 := h.nd
              have kd := h.d m (by omega)
              have ke := h.d (m - 1) (by omega)
              have kt := h.tr
              rw [hd] at kd
              rw [hd2] at ke
              rw [h5] at kt
              clear h
              go_enter Tryz.func163, Tryz.ntmps163
              go_wp2_with fail
              go_ret
              exact ⟨rfl, rfl⟩
          · apply Exists.intro
            intro b w h
            have k1 := h.nd
            have kd := h.d m (by omega)
            have kt := h.tr
            rw [hd] at kd
            rw [h5] at kt
            clear h
            go_enter Tryz.func163, Tryz.ntmps163
            go_wp2_with fail
            go_ret
            exact ⟨rfl, rfl⟩
        · have h4b : ((m : Int) + 1 == (S.nd : Int)) = false := by simp; omega
          apply Exists.intro
          intro b w h
          have k1 := h.nd
          have kd := h.d m (by omega)
          rw [hd] at kd
          clear h
          go_enter Tryz.func163, Tryz.ntmps163
          go_wp2_with fail
          go_ret
          exact ⟨rfl, rfl⟩

def riA (S : DS) : Nat → Int
  | 0 => 0
  | i + 1 => if i < S.nd then IntKind.u64.wrap (IntKind.u64.wrap (riA S i * 10) + (S.D i - 48)) else IntKind.u64.wrap (riA S i * 10)

set_option maxHeartbeats 4000000 in
set_option maxRecDepth 100000 in
theorem rint_ex (S : DS) (ok : S.Ok) (hdp : -1000000 ≤ S.dp ∧ S.dp ≤ 1000000) : ∃ v, ∀ (b : Nat) (w : World), DecAt w b S →
    Calls Tryz.prog 151 #[.pointer (some ⟨b, 0, none⟩)] w fun e w' => e = .returned (.int .u64 v) ∧ w' = w := by
  obtain ⟨rv, hrv⟩ := rup_ex S ok S.dp hdp
  have HRV := hid hrv
  clear hrv
  by_cases h20 : 20 < S.dp
  · apply Exists.intro
    intro b w h
    have k2 := h.dp
    clear h
    go_enter Tryz.func151, Tryz.ntmps151
    go_wp2_with fail
    go_ret
    exact ⟨rfl, rfl⟩
  · rw [Int.not_lt] at h20
    have hle := ok.le
    have HO := hid ok
    refine ⟨if rv then IntKind.u64.wrap (riA S S.dp.toNat + 1) else riA S S.dp.toNat, fun b w h => ?_⟩
    have k1 := h.nd
    have k2 := h.dp
    have HH := hid h
    have HC := hid (HRV.out b w h)
    clear h ok
    go_enter Tryz.func151, Tryz.ntmps151
    go_wp2_with fail
    go_loop [3, 4] (fun v3 v4 => ∃ i : Nat, (i : Int) ≤ max S.dp 0 ∧ i ≤ S.nd ∧ v3 = .int .i64 (i : Int) ∧ v4 = .int .u64 (riA S i)) (fun v3 _ => S.nd - (intOf v3).toNat)
    case atStart => exact ⟨0, by omega, by omega, rfl, rfl⟩
    case round =>
      obtain ⟨i, hi1, hi2, rfl, rfl⟩ := hrel
      by_cases h1 : (i : Int) < S.dp
      · by_cases h2 : i < S.nd
        · have h2' : (i : Int) < (S.nd : Int) := by omega
          have hi8 : (i : Int) < 800 := by omega
          have kd := HH.out.d i (by omega)
          have hq := HO.out.dig i h2
          obtain ⟨d, hd⟩ : ∃ d, S.D i = d := ⟨_, rfl⟩
          rw [hd] at kd hq
          obtain ⟨hq1, hq2⟩ := hq
          have HN : Hid (riA S (i + 1) = IntKind.u64.wrap (IntKind.u64.wrap (riA S i * 10) + (d - 48))) := hid (by rw [riA, if_pos h2, hd])
          clear hd
          go_wp2_with fail
          go_round
          · exact ⟨i + 1, by omega, by omega, by go_num, by rw [HN.out]⟩
          · simp [intOf]; omega
        · have h2' : (S.nd : Int) ≤ (i : Int) := by omega
          go_wp2_with fail
          go_loop [3, 4] (fun v3 v4 => ∃ t : Nat, S.nd ≤ t ∧ (t : Int) ≤ S.dp ∧ v3 = .int .i64 (t : Int) ∧ v4 = .int .u64 (riA S t)) (fun v3 _ => (S.dp - intOf v3).toNat)
          case atStart => exact ⟨i, by omega, by omega, rfl, rfl⟩
          case round =>
            obtain ⟨t, ht1, ht2, rfl, rfl⟩ := hrel
            by_cases h3 : (t : Int) < S.dp
            · have HN : Hid (riA S (t + 1) = IntKind.u64.wrap (riA S t * 10)) := hid (by rw [riA, if_neg (by omega)])
              go_wp2_with fail
              go_round
              · exact ⟨t + 1, by omega, by omega, by go_num, by rw [HN.out]⟩
              · simp [intOf]; omega
            · have ht : S.dp = (t : Int) := by omega
              have HT : Hid (S.dp.toNat = t) := hid (by omega)
              rw [Int.not_lt] at h3
              clear ht
              cases rv
              · go_wp2_with (go_at_call 163; refine (HC.out).mono ?_; rintro e w1 ⟨rfl, rfl⟩)
                go_ret
                exact ⟨by rw [HT.out]; rfl, rfl⟩
              · go_wp2_with (go_at_call 163; refine (HC.out).mono ?_; rintro e w1 ⟨rfl, rfl⟩)
                go_ret
                exact ⟨by rw [HT.out]; rfl, rfl⟩
      · have HT : Hid (S.dp.toNat = i) := hid (by omega)
        rw [Int.not_lt] at h1
        go_wp2_with fail
        go_loop [3, 4] (fun v3 v4 => v3 = .int .i64 (i : Int) ∧ v4 = .int .u64 (riA S i)) (fun _ _ => 0)
        case atStart => exact ⟨rfl, rfl⟩
        case round =>
          obtain ⟨rfl, rfl⟩ := hrel
          cases rv
          · go_wp2_with (go_at_call 163; refine (HC.out).mono ?_; rintro e w1 ⟨rfl, rfl⟩)
            go_ret
            exact ⟨by rw [HT.out]; rfl, rfl⟩
          · go_wp2_with (go_at_call 163; refine (HC.out).mono ?_; rintro e w1 ⟨rfl, rfl⟩)
            go_ret
            exact ⟨by rw [HT.out]; rfl, rfl⟩
end Go.Proofs.YtcmhfeeocehlaaaGreatDoor
namespace Go.Proofs.YtcmhfeeocehlaaaGreatDoor
set_option linter.unusedSimpArgs false
set_option linter.unusedVariables false
open Go.RowKit Go.PlainAid

/-- a run of shifts to the right, till the point stands ahead of the digits -/
theorem seqD (num : Int → Nat) (hnum : ∀ x, 1 ≤ num x ∧ num x ≤ 60) : ∀ (k : Nat) (S : DS), S.Ok → S.dp ≤ 310 → -400 ≤ S.dp → (S.dp * 10 + (S.D 0 - 48)).toNat ≤ k →
    ∃ (I : Nat) (f : Nat → DS) (e : Nat → Int), I ≤ k ∧ f 0 = S ∧ e 0 = 0 ∧ (f I).Ok ∧ (f I).dp ≤ 0 ∧ -400 ≤ (f I).dp ∧ (f I).neg = S.neg ∧ (∀ i, i ≤ I → 0 ≤ e i ∧ e i ≤ 60 * i) ∧
      ∀ i, i < I → 0 < (f i).dp ∧ (f i).dp ≤ 310 ∧ (f i).Ok ∧ e (i + 1) = e i + num (f i).dp ∧ ∀ (b : Nat) (w : World), DecAt w b (f i) →
        Calls Tryz.prog 150 #[.pointer (some ⟨b, 0, none⟩), .int .i64 (-(num (f i).dp : Int))] w fun e w' => e = .returned (.tuple #[]) ∧ Tn (At1 b) w w' ∧ DecAt w' b (f (i + 1)) := by
  intro k
  induction k with
  | zero =>
    intro S ok h1 h2 h3
    have hf := ok.first
    exact ⟨0, fun _ => S, fun _ => 0, by omega, rfl, rfl, ok, (by show S.dp ≤ 0; omega), h2, rfl, (fun i hi => by simp only; omega), fun i hi => by omega⟩
  | succ k ih =>
    intro S ok h1 h2 h3
    by_cases h0 : S.dp ≤ 0
    · exact ⟨0, fun _ => S, fun _ => 0, by omega, rfl, rfl, ok, h0, h2, rfl, (fun i hi => by simp only; omega), fun i hi => by omega⟩
    · obtain ⟨n1, n60⟩ := hnum S.dp
      obtain ⟨S', p1, p2, p3, p4, p5⟩ := shiftDown_ex S ok (num S.dp) n1 (by omega) (by omega)
      have hf := ok.first
      have hf' := p1.first
      have hg' := (p1.dig 0 (by have := p1.pos; omega)).2
      have hq : num S.dp / 60 ≤ 1 := by omega
      obtain ⟨I, f, e, q1, q2, q3, q4, q5, q6, q7, q8, q9⟩ := ih S' p1 (by omega) (by omega) (by omega)
      refine ⟨I + 1, fun i => match i with | 0 => S | j + 1 => f j, fun i => match i with | 0 => 0 | j + 1 => num S.dp + e j, by omega, rfl, rfl, q4, q5, q6, q7.trans p2, fun i hi => ?_, fun i hi => ?_⟩
      · rcases i with _ | j
        · exact ⟨Int.le_refl _, by simp⟩
        · have := q8 j (by omega)
          simp only
          omega
      · rcases i with _ | j
        · refine ⟨by simp only; omega, h1, ok, by simp only; rw [q3]; omega, ?_⟩
          simp only
          rw [q2]
          exact p5
        · obtain ⟨r1, r2, r3, r4, r5⟩ := q9 j (by omega)
          exact ⟨r1, r2, r3, by simp only; rw [r4]; omega, r5⟩

/-- is it below a half? -/
def DS.low (S : DS) : Prop := S.dp < 0 ∨ (S.dp = 0 ∧ S.D 0 < 53)
/-- a run of shifts to the left, till it is no more below a half -/
theorem seqU (ch : Nat → Nat × ByteArray) (hch : ChOk ch) (num : Int → Nat) (hnum : ∀ x, 1 ≤ num x ∧ num x ≤ 60) : ∀ (k : Nat) (S : DS), S.Ok → S.dp ≤ 20 → -400 ≤ S.dp → ((-S.dp) * 10 + (57 - S.D 0)).toNat ≤ k →
    ∃ (I : Nat) (f : Nat → DS) (e : Nat → Int), I ≤ k ∧ f 0 = S ∧ e 0 = 0 ∧ (f I).Ok ∧ ¬ (f I).low ∧ (f I).dp ≤ 20 ∧ -400 ≤ (f I).dp ∧ (f I).neg = S.neg ∧ (∀ i, i ≤ I → 0 ≤ e i ∧ e i ≤ 60 * i) ∧
      ∀ i, i < I → (f i).low ∧ (f i).dp ≤ 0 ∧ -400 ≤ (f i).dp ∧ (f i).Ok ∧ e (i + 1) = e i + num (f i).dp ∧ ∀ (b : Nat) (g : Nat × Nat) (w : World), DecAt w b (f i) → G13 ch w g →
        Calls Tryz.prog 150 #[.pointer (some ⟨b, 0, none⟩), .int .i64 (num (f i).dp : Int)] w fun e w' => e = .returned (.tuple #[]) ∧ Tn (At1 b) w w' ∧ DecAt w' b (f (i + 1)) := by
  intro k
  induction k with
  | zero =>
    intro S ok h1 h2 h3
    have hg := (ok.dig 0 (by have := ok.pos; omega)).2
    refine ⟨0, fun _ => S, fun _ => 0, by omega, rfl, rfl, ok, ?_, h1, h2, rfl, (fun i hi => by simp only; omega), fun i hi => by omega⟩
    unfold DS.low
    simp only
    omega
  | succ k ih =>
    intro S ok h1 h2 h3
    by_cases h0 : S.low
    · obtain ⟨n1, n60⟩ := hnum S.dp
      obtain ⟨S', p1, p2, p3, p4, p5⟩ := shiftUp_ex ch hch S ok (num S.dp) n1 n60 (by omega)
      have hdp0 : S.dp ≤ 0 := by unfold DS.low at h0; omega
      have hg := (ok.dig 0 (by have := ok.pos; omega)).2
      have hf' := p1.first
      have hg' := (p1.dig 0 (by have := p1.pos; omega)).2
      obtain ⟨I, f, e, q1, q2, q3, q4, q5, q5b, q6, q7, q8, q9⟩ := ih S' p1 (by omega) (by omega) (by unfold DS.low at h0; omega)
      refine ⟨I + 1, fun i => match i with | 0 => S | j + 1 => f j, fun i => match i with | 0 => 0 | j + 1 => num S.dp + e j, by omega, rfl, rfl, q4, q5, q5b, q6, q7.trans p2, fun i hi => ?_, fun i hi => ?_⟩
      · rcases i with _ | j
        · exact ⟨Int.le_refl _, by simp⟩
        · have := q8 j (by omega)
          simp only
          omega
      · rcases i with _ | j
        · refine ⟨h0, hdp0, h2, ok, by simp only; rw [q3]; omega, ?_⟩
          simp only
          rw [q2]
          exact p5
        · obtain ⟨r1, r2, r2b, r3, r4, r5⟩ := q9 j (by omega)
          exact ⟨r1, r2, r2b, r3, by simp only; rw [r4]; omega, r5⟩
    · exact ⟨0, fun _ => S, fun _ => 0, by omega, rfl, rfl, ok, h0, h1, h2, rfl, (fun i hi => by simp only; omega), fun i hi => by omega⟩
end Go.Proofs.YtcmhfeeocehlaaaGreatDoor
namespace Go.Proofs.YtcmhfeeocehlaaaGreatDoor
set_option linter.unusedSimpArgs false
set_option linter.unusedVariables false
open Go.RowKit Go.PlainAid
attribute [local go_sem ↓] Go.wp_at_zero Go.wp_at_succ

/-- float64info -/
structure G6 (w : World) : Prop where
  m : w.cell? ⟨6, 0, none⟩ = some (.int .u64 52)
  e : w.cell? ⟨6, 1, none⟩ = some (.int .u64 11)
  b : w.cell? ⟨6, 2, none⟩ = some (.int .i64 (-1023))
/-- powtab -/
structure G8 (pt : Nat → Nat) (w : World) (p : Nat × Nat) : Prop where
  var : w.cell? ⟨8, 0, none⟩ = some (.slice (some ⟨p.1, p.2, none⟩) 9 9)
  row : ∀ i, i < 9 → w.cell? ⟨p.1, p.2 + i, none⟩ = some (.int .i64 (pt i : Int))
/-- all that floatBits reads besides, and that the decimal is none of it -/
structure Gb (ch : Nat → Nat × ByteArray) (pt : Nat → Nat) (w : World) (b : Nat) (g p : Nat × Nat) : Prop where
  g6 : G6 w
  g8 : G8 pt w p
  g13 : G13 ch w g
  ne : b ≠ 6 ∧ b ≠ 8 ∧ b ≠ 13 ∧ b ≠ g.1 ∧ b ≠ p.1
theorem Gb.keep {ch : Nat → Nat × ByteArray} {pt : Nat → Nat} {w u : World} {b : Nat} {g p : Nat × Nat} (h : Gb ch pt w b g p) (t : Tn (At1 b) w u) : Gb ch pt u b g p := by
  obtain ⟨n1, n2, n3, n4, n5⟩ := h.ne
  have l6 := World.block_lt_of_cell? _ _ h.g6.m
  have l8 := World.block_lt_of_cell? _ _ h.g8.var
  have l13 := World.block_lt_of_cell? _ _ h.g13.var
  have lg := World.block_lt_of_cell? _ _ (h.g13.row 0 (by omega)).1
  have lp := World.block_lt_of_cell? _ _ (h.g8.row 0 (by omega))
  have kp : ∀ k o, k < w.heap.size → k ≠ b → u.cell? ⟨k, o, none⟩ = w.cell? ⟨k, o, none⟩ := fun k o hk hn => t.cell hk (fun e => hn e)
  refine ⟨⟨?_, ?_, ?_⟩, ⟨?_, fun i hi => ?_⟩, ⟨?_, fun k hk => ⟨?_, ?_⟩⟩, h.ne⟩
  · exact (kp _ _ l6 (Ne.symm n1)).trans h.g6.m
  · exact (kp _ _ l6 (Ne.symm n1)).trans h.g6.e
  · exact (kp _ _ l6 (Ne.symm n1)).trans h.g6.b
  · exact (kp _ _ l8 (Ne.symm n2)).trans h.g8.var
  · exact (kp _ _ lp (Ne.symm n5)).trans (h.g8.row i hi)
  · exact (kp _ _ l13 (Ne.symm n3)).trans h.g13.var
  · exact (kp _ _ lg (Ne.symm n4)).trans (h.g13.row k hk).1
  · exact (kp _ _ lg (Ne.symm n4)).trans (h.g13.row k hk).2
/-- the bits that are put together at the end -/
def fbT (ng : Bool) (mant x : Int) : Int := cond ng
  (bits .or .u64 (bits .or .u64 (bits .and .u64 mant 4503599627370495) (IntKind.u64.wrap (IntKind.u64.wrap (bits .and .i64 x 2047) * 4503599627370496))) 9223372036854775808)
  (bits .or .u64 (bits .and .u64 mant 4503599627370495) (IntKind.u64.wrap (IntKind.u64.wrap (bits .and .i64 x 2047) * 4503599627370496)))
def numD (pt : Nat → Nat) (x : Int) : Nat := if 9 ≤ x then 27 else pt x.toNat
def numU (pt : Nat → Nat) (x : Int) : Nat := if 9 ≤ -x then 27 else pt (-x).toNat

set_option maxHeartbeats 8000000 in
set_option maxRecDepth 100000 in
theorem fb_big (ch : Nat → Nat × ByteArray) (pt : Nat → Nat) (S : DS) (ok : S.Ok) (hd : 310 < S.dp) (b : Nat) (g p : Nat × Nat) (w : World) (h : DecAt w b S) (hg : Gb ch pt w b g p) :
    Calls Tryz.prog 124 #[.pointer (some ⟨b, 0, none⟩), .pointer (some ⟨6, 0, none⟩)] w fun e w' => e = .returned (.tuple #[.int .u64 (fbT S.neg 0 2047), .bool true]) ∧ Tn (At1 b) w w' := by
  have k1 := h.nd
  have k2 := h.dp
  have k3 := h.neg
  have f0 := hg.g6.m
  have f1 := hg.g6.e
  have f2 := hg.g6.b
  have hz : ¬ (S.nd : Int) = 0 := by have := ok.pos; omega
  have hzb : ((S.nd : Int) == 0) = false := by simpa using hz
  clear h hg
  cases hng : S.neg
  all_goals
    rw [hng] at k3
    go_enter Tryz.func124, Tryz.ntmps124
    go_wp2_with fail
    refine wp_scope_fwd 0 1 rfl rfl ?_
    go_wp2_with fail
    go_step3
    refine Or.inr ⟨rfl, ?_⟩
    change Code.wp _ _ _ _ _
    go_wp2_with fail
    go_quiet (fail)
    go_wp2_with fail
    go_step3
    go_wp2_with fail
    go_quiet (fail)
    go_wp2_with fail
    try (go_quiet (fail); go_wp2_with fail)
    rw [Exit.noGoto_ret]
    go_ret2
    exact ⟨rfl, by repeat (first | exact Tn.refl _ _ | apply Tn.drewN)⟩

set_option maxHeartbeats 8000000 in
set_option maxRecDepth 100000 in
theorem fb_small (ch : Nat → Nat × ByteArray) (pt : Nat → Nat) (S : DS) (ok : S.Ok) (hd : S.dp < -330) (b : Nat) (g p : Nat × Nat) (w : World) (h : DecAt w b S) (hg : Gb ch pt w b g p) :
    Calls Tryz.prog 124 #[.pointer (some ⟨b, 0, none⟩), .pointer (some ⟨6, 0, none⟩)] w fun e w' => e = .returned (.tuple #[.int .u64 (fbT S.neg 0 0), .bool false]) ∧ Tn (At1 b) w w' := by
  have k1 := h.nd
  have k2 := h.dp
  have k3 := h.neg
  have f0 := hg.g6.m
  have f1 := hg.g6.e
  have f2 := hg.g6.b
  have hz : ¬ (S.nd : Int) = 0 := by have := ok.pos; omega
  have hzb : ((S.nd : Int) == 0) = false := by simpa using hz
  have hd2 : S.dp ≤ 310 := by omega
  clear h hg
  cases hng : S.neg
  all_goals
    rw [hng] at k3
    go_enter Tryz.func124, Tryz.ntmps124
    go_wp2_with fail
    refine wp_scope_fwd 0 1 rfl rfl ?_
    go_wp2_with fail
    go_step3
    refine Or.inl ⟨rfl, ?_⟩
    change Code.wp _ _ _ _ _
    go_wp2_with fail
    go_quiet (fail)
    go_wp2_with fail
    try (go_quiet (fail); go_wp2_with fail)
    rw [Exit.noGoto_ret]
    go_ret2
    exact ⟨rfl, by repeat (first | exact Tn.refl _ _ | apply Tn.drewN)⟩
end Go.Proofs.YtcmhfeeocehlaaaGreatDoor
