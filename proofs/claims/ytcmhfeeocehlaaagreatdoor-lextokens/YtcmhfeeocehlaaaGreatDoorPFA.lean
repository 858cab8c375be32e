/-
  strconv.ParseFloat: the fast road: scaling by the table of the powers of ten.
-/
import Derived.Test.YtcmhfeeocehlaaaGreatDoorPF1
import Derived.Test.YtcmhfeeocehlaaaGreatDoorShelf
import Derived.Test.YtcmhfeeocehlaaaGreatDoorWords
import Derived.Test.YtcmhfeeocehlaaaGreatDoorSpecA
import Derived.Deep.DeepCutAuto
namespace Go.Proofs.YtcmhfeeocehlaaaGreatDoor
set_option linter.unusedSimpArgs false
set_option linter.unusedVariables false
open Go.RowKit
attribute [local go_sem ↓] Go.wp_at_zero Go.wp_at_succ
attribute [local go_sem] ffb_run

theorem and63 (s : Int) : ∃ n : Nat, bits .and .i64 s 63 = (n : Int) ∧ n < 64 := by
  refine ⟨(BitVec.ofInt 64 s).toNat &&& 63, ?_, Nat.lt_of_le_of_lt Nat.and_le_right (by decide)⟩
  show IntKind.i64.wrap ((BitVec.ofInt 64 s &&& BitVec.ofInt 64 63).toNat : Int) = _
  rw [BitVec.toNat_and, show (BitVec.ofInt 64 63).toNat = 63 from rfl]
  have h : (BitVec.ofInt 64 s).toNat &&& 63 ≤ 63 := Nat.and_le_right
  generalize (BitVec.ofInt 64 s).toNat &&& 63 = k at *
  unfold IntKind.wrap
  simp [IntKind.signed, IntKind.bits]
  omega

set_option maxHeartbeats 4000000 in
set_option maxRecDepth 100000 in
theorem uscale_ex (x hi lo : Nat) (s : Int) (hx : x < 18446744073709551616) (hh : hi < 18446744073709551616) (hl : lo < 18446744073709551616) : ∃ v, ∀ (b : Nat) (w : World), w.cell? ⟨b, 0, none⟩ = some (.int .u64 hi) → w.cell? ⟨b, 1, none⟩ = some (.int .u64 lo) → w.cell? ⟨b, 2, none⟩ = some (.int .i64 s) →
    Calls Tryz.prog 145 #[.int .u64 x, .pointer (some ⟨b, 0, none⟩)] w fun e w' => e = .returned (.int .u64 v) ∧ Tn No w w' := by
  obtain ⟨n, hn, hn64⟩ := and63 s
  by_cases hq : IntKind.u64.wrap ((x : Int) * hi / 18446744073709551616 / 2 ^ n * 2 ^ n) = (x : Int) * hi / 18446744073709551616
  · apply Exists.intro
    intro b w c0 c1 c2
    go_enter Tryz.func145, Tryz.ntmps145
    go_wp2_with (first
      | (go_at_call_of 160 (Value.int IntKind.u64 hi); refine (Tryz.bits_Mul64 x hi hx hh _).mono ?_; rintro e w1 ⟨rfl, rfl⟩)
      | (go_at_call_of 160 (Value.int IntKind.u64 lo); refine (Tryz.bits_Mul64 x lo hx hl _).mono ?_; rintro e w1 ⟨rfl, rfl⟩)
      | (go_at_call 125; refine (bool2u_raw _ _).mono ?_; rintro e w2 ⟨rfl, rfl⟩))
    go_quiet ((go_at_call 125; exact Calls.quiet_of_same (bool2u_raw _ _)))
    go_wp2
    go_ret
    exact ⟨rfl, (by repeat (first | exact Tn.refl _ _ | apply Tn.drew | apply Tn.drewN | apply Tn.alloc | (refine Tn.then ?_ (by assumption)) | (refine Tn.thenNo ?_ (by assumption))))⟩
  · apply Exists.intro
    intro b w c0 c1 c2
    go_enter Tryz.func145, Tryz.ntmps145
    go_wp2_with (first
      | (go_at_call_of 160 (Value.int IntKind.u64 hi); refine (Tryz.bits_Mul64 x hi hx hh _).mono ?_; rintro e w1 ⟨rfl, rfl⟩)
      | (go_at_call_of 160 (Value.int IntKind.u64 lo); refine (Tryz.bits_Mul64 x lo hx hl _).mono ?_; rintro e w1 ⟨rfl, rfl⟩)
      | (go_at_call 125; refine (bool2u_raw _ _).mono ?_; rintro e w2 ⟨rfl, rfl⟩))
    go_ret
    exact ⟨rfl, Tn.refl _ _⟩

theorem bitLen64 (d : Nat) (h : d < 18446744073709551616) : Lib.bitLen d ≤ 64 := by
  have aux : ∀ (n x : Nat), n ≤ 64 → x < 2 ^ n → Lib.bitLen x ≤ n := by
    intro n
    induction n with
    | zero => intro x _ hx; have : x = 0 := by simpa using hx
              subst this; decide
    | succ n ih =>
      intro x hn hx
      by_cases h0 : x = 0
      · subst h0; exact Nat.le_trans (by decide : Lib.bitLen 0 ≤ 0) (Nat.zero_le _)
      · rw [Lib.bitLen_half x h0 (Nat.lt_of_lt_of_le hx (Nat.pow_le_pow_right (by decide) hn))]
        have := ih (x / 2) (by omega) (by rw [Nat.pow_succ] at hx; omega)
        omega
  exact aux 64 d (Nat.le_refl _) h

theorem three_set (w : World) (b : Nat) (x y z : Value) (hc : ∀ i, i < 3 → (w.cell? ⟨b, i, none⟩).isSome = true) :
    Tn (fun i => i = b) w (((w.setCell ⟨b, 0, none⟩ x).setCell ⟨b, 1, none⟩ y).setCell ⟨b, 2, none⟩ z) ∧
      (((w.setCell ⟨b, 0, none⟩ x).setCell ⟨b, 1, none⟩ y).setCell ⟨b, 2, none⟩ z).cell? ⟨b, 0, none⟩ = some x ∧
      (((w.setCell ⟨b, 0, none⟩ x).setCell ⟨b, 1, none⟩ y).setCell ⟨b, 2, none⟩ z).cell? ⟨b, 1, none⟩ = some y ∧
      (((w.setCell ⟨b, 0, none⟩ x).setCell ⟨b, 1, none⟩ y).setCell ⟨b, 2, none⟩ z).cell? ⟨b, 2, none⟩ = some z := by
  refine ⟨(((Tn.refl (fun i => i = b) w).set ⟨b, 0, none⟩ x (fun _ => rfl)).set ⟨b, 1, none⟩ y (fun _ => rfl)).set ⟨b, 2, none⟩ z (fun _ => rfl), ?_, ?_, ?_⟩
  · rw [cell_set_ne (Or.inr (by decide)), cell_set_ne (Or.inr (by decide))]; exact set_same (hc 0 (by omega))
  · rw [cell_set_ne (Or.inr (by decide))]; exact set_same (by rw [cell_set_ne (Or.inr (by decide))]; exact hc 1 (by omega))
  · exact set_same (by rw [cell_set_ne (Or.inr (by decide)), cell_set_ne (Or.inr (by decide))]; exact hc 2 (by omega))

set_option maxHeartbeats 4000000 in
set_option maxRecDepth 100000 in
theorem prescale_ex (k hi lo : Nat) (e lp : Int) (hk : k < 696) : ∃ s : Int, ∀ (b : Nat) (w : World), w.cell? ⟨12, k * 2, none⟩ = some (.int .u64 hi) → w.cell? ⟨12, k * 2 + 1, none⟩ = some (.int .u64 lo) → b ≠ 12 → (∀ i, i < 3 → (w.cell? ⟨b, i, none⟩).isSome = true) → (∀ i, w.frozen? ⟨b, i, none⟩ = false) →
    Calls Tryz.prog 144 #[.pointer (some ⟨b, 0, none⟩), .int .i64 e, .int .i64 ((k : Int) - 348), .int .i64 lp] w fun e w' => e = .returned (.tuple #[]) ∧ Tn (fun i => i = b) w w' ∧ w'.cell? ⟨b, 0, none⟩ = some (.int .u64 hi) ∧ w'.cell? ⟨b, 1, none⟩ = some (.int .u64 lo) ∧ w'.cell? ⟨b, 2, none⟩ = some (.int .i64 s) := by
  have hi1 : (0 : Int) ≤ ↑k - 348 - -348 := by omega
  have hi2 : (k : Int) - 348 - -348 < 696 := by omega
  have hi3 : ((k : Int) - 348 - -348).toNat = k := by omega
  apply Exists.intro
  intro b w c0 c1 hb hc hz
  have z0 := hz 0
  have z1 := hz 1
  have z2 := hz 2
  obtain ⟨v0, hv0⟩ := Option.isSome_iff_exists.1 (hc 0 (by omega))
  obtain ⟨v1, hv1⟩ := Option.isSome_iff_exists.1 (hc 1 (by omega))
  obtain ⟨v2, hv2⟩ := Option.isSome_iff_exists.1 (hc 2 (by omega))
  have hbl := World.block_lt_of_cell? _ _ hv0
  have HC := hid hc
  clear hc hz
  go_enter Tryz.func144, Tryz.ntmps144
  go_wp2
  go_end0
  exact ⟨rfl, three_set w b _ _ _ HC.out⟩

theorem log2_raw (k : Nat) (hk : k < 696) (w : World) : Calls Tryz.prog 143 #[.int .i64 ((k : Int) - 348)] w fun e w' => e = .returned (.int .i64 (((k : Int) - 348) * 108853 / 32768)) ∧ w' = w := by
  go_enter Tryz.func143, Tryz.ntmps143
  go_wp2
  go_ret
  exact ⟨rfl, rfl⟩

theorem mk2 {α β : Type} {p : β → Prop} {q : α → β → Prop} {a : α} {b : β} (h : q a b) (hp : p b) : ∃ a b, p b ∧ q a b := ⟨a, b, hp, h⟩
theorem alloc3 (w : World) (a b c : Value) (t : TypeId) : (∀ i, i < 3 → ((w.alloc (.cells #[a, b, c] t)).cell? ⟨w.heap.size, i, none⟩).isSome = true) ∧ (∀ i, (w.alloc (.cells #[a, b, c] t)).frozen? ⟨w.heap.size, i, none⟩ = false) := by
  refine ⟨fun i hi => ?_, fun i => ?_⟩
  · rw [World.cell?_alloc_new]
    rcases i with _ | _ | _ | i
    · rfl
    · rfl
    · rfl
    · omega
  · exact World.frozen?_alloc_at _ _ _ _ rfl
theorem Tn.fresh {w u v : World} (h : Tn No w u) (k : Tn (fun i => i = w.heap.size) u v) : Tn No w v :=
  h.trans k (fun _ _ e => e) (fun i hi e => by omega)
theorem pack_all : ∃ P : Int × Int → Nat × Value, ∀ x, ((P x).2 = Value.nilIface ∨ (P x).2 = .iface 98 (.int .i64 1)) ∧ ∀ w, Calls Tryz.prog 152 #[.int .u64 x.1, .int .i64 x.2] w fun e w' => e = .returned (.tuple #[.float .f64 (P x).1, (P x).2]) ∧ w' = w :=
  ⟨fun x => (Classical.choose (pack_ex x.1 x.2), Classical.choose (Classical.choose_spec (pack_ex x.1 x.2))), fun x => Classical.choose_spec (Classical.choose_spec (pack_ex x.1 x.2))⟩

set_option maxHeartbeats 4000000 in
set_option maxRecDepth 100000 in
theorem pf64_ex (d k hi lo : Nat) (sign : Int) (hd : d < 18446744073709551616) (hk : k < 696) (hh : hi < 18446744073709551616) (hl : lo < 18446744073709551616) : ∃ v er, (er = Value.nilIface ∨ er = .iface 98 (.int .i64 1)) ∧ ∀ (w : World), w.cell? ⟨12, k * 2, none⟩ = some (.int .u64 hi) → w.cell? ⟨12, k * 2 + 1, none⟩ = some (.int .u64 lo) →
    Calls Tryz.prog 128 #[.int .u64 d, .int .i64 ((k : Int) - 348), .int .u64 sign] w fun e w' => e = .returned (.tuple #[.float .f64 v, er]) ∧ Tn No w w' := by
  obtain ⟨b, hb⟩ : ∃ b : Nat, Lib.bitLen d = b := ⟨_, rfl⟩
  have hb64 : b ≤ 64 := by rw [← hb]; exact bitLen64 d hd
  have HLEN := hid (fun w => Tryz.bits_Len64 (d : Int) w (by omega) (by omega))
  simp only [Int.toNat_natCast, hb] at HLEN
  clear hb
  obtain ⟨s, hs⟩ := prescale_ex k hi lo (min 1074 (53 - b - ((k : Int) - 348) * 108853 / 32768) - (64 - b)) (((k : Int) - 348) * 108853 / 32768) hk
  have HPS := hid hs
  clear hs
  have HPRE : Hid (∀ w : World, w.cell? ⟨12, k * 2, none⟩ = some (.int .u64 hi) → w.cell? ⟨12, k * 2 + 1, none⟩ = some (.int .u64 lo) →
      Calls Tryz.prog 144 #[.pointer (some ⟨w.heap.size, 0, none⟩), .int .i64 (min 1074 (53 - b - ((k : Int) - 348) * 108853 / 32768) - (64 - b)), .int .i64 ((k : Int) - 348), .int .i64 (((k : Int) - 348) * 108853 / 32768)] (w.alloc (.cells #[.int .u64 0, .int .u64 0, .int .i64 0] 168)) fun e w' => e = .returned (.tuple #[]) ∧ Tn No w w' ∧ w'.cell? ⟨w.heap.size, 0, none⟩ = some (.int .u64 hi) ∧ w'.cell? ⟨w.heap.size, 1, none⟩ = some (.int .u64 lo) ∧ w'.cell? ⟨w.heap.size, 2, none⟩ = some (.int .i64 s)) := hid (fun w c0 c1 => by
    have hlt := World.block_lt_of_cell? _ _ c0
    have ta := (Tn.refl No w).alloc (.cells #[.int .u64 0, .int .u64 0, .int .i64 0] 168)
    obtain ⟨a1, a2⟩ := alloc3 w (.int .u64 0) (.int .u64 0) (.int .i64 0) 168
    exact (HPS.out w.heap.size _ ((ta.cell hlt (fun e => e)).trans c0) ((ta.cell hlt (fun e => e)).trans c1) (by simp only at hlt; omega) a1 a2).mono (fun e w' ⟨h1, h2, h3⟩ => ⟨h1, ta.fresh h2, h3⟩))
  clear HPS
  by_cases hs : 64 ≤ s
  · apply mk2
    case h =>
      intro w c0 c1
      have HP := hid (HPRE.out w c0 c1)
      clear c0 c1
      go_enter Tryz.func128, Tryz.ntmps128
      go_wp2_with (first
        | (go_at_call 142; refine (HLEN.out _).mono ?_; rintro e w1 ⟨rfl, rfl⟩)
        | (go_at_call 143; refine (log2_raw k hk _).mono ?_; rintro e w2 ⟨rfl, rfl⟩)
        | (go_at_call 144; refine (HP.out).mono ?_; rintro e w3 ⟨rfl, t3, d0, d1, d2⟩))
      go_ret2
      exact ⟨rfl, t3⟩
    case hp => exact Or.inl rfl
  · rw [Int.not_le] at hs
    have hx0 : 0 ≤ IntKind.u64.wrap ((d : Int) * 2 ^ (64 - b)) := by rw [IntKind.wrap_u64]; omega
    have hx1 : IntKind.u64.wrap ((d : Int) * 2 ^ (64 - b)) < 18446744073709551616 := by rw [IntKind.wrap_u64]; omega
    obtain ⟨x, hx⟩ : ∃ x : Nat, IntKind.u64.wrap ((d : Int) * 2 ^ (64 - b)) = (x : Int) := ⟨_, (Int.toNat_of_nonneg hx0).symm⟩
    have hb1 : (0 : Int) ≤ 64 - b := by omega
    have hb2 : (64 - (b : Int)).toNat = 64 - b := by omega
    obtain ⟨u, hu⟩ := uscale_ex x hi lo s (by rw [hx] at hx1; omega) hh hl
    obtain ⟨un, hun⟩ := unmin_ex 9007199254740992
    obtain ⟨P, hP⟩ := pack_all
    obtain ⟨R, hR⟩ := Classical.skolem.mp round_ex
    have HU := hid hu
    have HUN := hid hun
    have HPK := hid hP
    have HR := hid hR
    clear hu hun hP hR hx0 hx1
    have z0 := (b2_01 (decide (un ≤ u))).1
    have z1 : b2 (decide (un ≤ u)) ≤ 64 := by have := (b2_01 (decide (un ≤ u))).2; omega
    apply mk2
    case h =>
      intro w c0 c1
      have HP := hid (HPRE.out w c0 c1)
      clear c0 c1
      go_enter Tryz.func128, Tryz.ntmps128
      go_wp2_with (first
        | (go_at_call 142; refine (HLEN.out _).mono ?_; rintro e w1 ⟨rfl, rfl⟩)
        | (go_at_call 143; refine (log2_raw k hk _).mono ?_; rintro e w2 ⟨rfl, rfl⟩)
        | (go_at_call 144; refine (HP.out).mono ?_; rintro e w3 ⟨rfl, t3, d0, d1, d2⟩)
        | (go_at_call 145; refine (HU.out _ _ d0 d1 d2).mono ?_; rintro e w4 ⟨rfl, t4⟩)
        | (go_at_call 147; refine (HUN.out _).mono ?_; rintro e w5 ⟨rfl, rfl⟩)
        | (go_at_call 146; refine (bool2i_raw _ _).mono ?_; rintro e w6 ⟨rfl, rfl⟩)
        | (go_at_call 149; refine (HR.out _ _).mono ?_; rintro e w7 ⟨rfl, rfl⟩)
        | (go_at_call 152; refine ((HPK.out (_, _)).2 _).mono ?_; rintro e w8 ⟨rfl, rfl⟩))
      go_ret2
      exact ⟨rfl, t3.then t4⟩
    case hp => exact (HPK.out _).1
end Go.Proofs.YtcmhfeeocehlaaaGreatDoor
namespace Go.Proofs.YtcmhfeeocehlaaaGreatDoor
set_option linter.unusedSimpArgs false
set_option linter.unusedVariables false
open Go.RowKit Go.PlainAid
attribute [local go_sem ↓] Go.wp_at_zero Go.wp_at_succ

/-- a byte of a real's text, as strconv.ParseFloat has it -/
def Rb (c : Int) : Prop := c = 45 ∨ c = 46 ∨ (48 ≤ c ∧ c ≤ 57) ∨ c = 101
/-- such a text -/
structure Rtx (s : ByteArray) : Prop where
  pos : 1 ≤ s.size
  small : s.size ≤ 100
  all : ∀ k, k < s.size → Rb (bt s k)

theorem bt_ext1 (s : ByteArray) (h : 1 ≤ s.size) : bt (s.extract 1 s.size) 0 = bt s 1 := by
  unfold bt
  by_cases h1 : 1 < s.size
  · rw [dif_pos (by simp; omega), dif_pos h1]
    have e : (s.extract 1 s.size)[0]'(by simp; omega) = s[1]'h1 := by
      simp [ByteArray.getElem_extract]
    rw [e]
  · rw [dif_neg (by simp; omega), dif_neg h1]

set_option maxHeartbeats 1000000 in
set_option maxRecDepth 100000 in
theorem common_raw (t : ByteArray) (w : World) (hs : t.size ≤ 100) (h1 : bt t 0 ≠ 105) (h2 : bt t 0 ≠ 73) :
    Calls Tryz.prog 137 #[.string t, .string ⟨#[105, 110, 102, 105, 110, 105, 116, 121]⟩] w fun e w' => e = .returned (.int .i64 0) ∧ w' = w := by
  have hb := get_bt t
  have p1 := bt_nonneg t 0
  have p2 := bt_le t 0
  by_cases h0 : 0 < t.size
  · have e1 : (min 8 (t.size : Int)) = ((min 8 t.size : Nat) : Int) := by omega
    obtain ⟨n, hn⟩ : ∃ n : Nat, min 8 t.size = n := ⟨_, rfl⟩
    rw [hn] at e1
    have hn0 : 0 < n := by omega
    clear hn
    go_enter Tryz.func137, Tryz.ntmps137
    go_wp2_with fail
    go_loop [6] (fun i => i = .int .i64 0) (fun _ => 0)
    case atStart => rfl
    case round =>
      subst hrel
      have h105 : (bt t 0 == 105) = false := by simpa using h1
      have hq : ∀ h, (((⟨#[105, 110, 102, 105, 110, 105, 116, 121]⟩ : ByteArray)[0]'h).toNat : Int) = 105 := fun _ => rfl
      by_cases hA : 65 ≤ bt t 0 ∧ bt t 0 ≤ 90
      · obtain ⟨q1, q2⟩ := hA
        have e2 : IntKind.u8.wrap (bt t 0 + 32) = bt t 0 + 32 := by rw [IntKind.wrap_u8]; omega
        have h3 : (bt t 0 + 32 == 105) = false := by simp; omega
        go_wp2_with fail
        go_ret
        exact ⟨rfl, rfl⟩
      · by_cases hC : 65 ≤ bt t 0
        · have hD : 90 < bt t 0 := by omega
          clear hA
          go_wp2_with fail
          go_ret
          exact ⟨rfl, rfl⟩
        · rw [Int.not_le] at hC
          clear hA
          go_wp2_with fail
          go_ret
          exact ⟨rfl, rfl⟩
  · have h00 : t.size = 0 := by omega
    have e1 : (min 8 (t.size : Int)) = 0 := by omega
    go_enter Tryz.func137, Tryz.ntmps137
    go_wp2_with fail
    go_loop [6] (fun i => i = .int .i64 0) (fun _ => 0)
    case atStart => rfl
    case round =>
      subst hrel
      go_wp2_with fail
      go_ret
      exact ⟨rfl, rfl⟩

set_option maxHeartbeats 1000000 in
set_option maxRecDepth 100000 in
theorem special_raw (s : ByteArray) (w : World) (h : Rtx s) :
    Calls Tryz.prog 116 #[.string s] w fun e w' => e = .returned (.tuple #[.float .f64 0, .int .i64 0, .bool false]) ∧ w' = w := by
  have hb := get_bt s
  have h0 := h.all 0 h.pos
  have hp := h.pos
  have hsm := h.small
  have hz : ¬ (s.size : Int) = 0 := by omega
  by_cases h1 : bt s 0 = 45
  · have hq : bt (s.extract 1 s.size) 0 ≠ 105 ∧ bt (s.extract 1 s.size) 0 ≠ 73 := by
      rw [bt_ext1 s hp]
      by_cases h2 : 1 < s.size
      · have := h.all 1 h2
        unfold Rb at this
        omega
      · rw [bt_end s (by omega)]; omega
    have HC := hid (fun w => common_raw (s.extract 1 s.size) w (by simp; omega) hq.1 hq.2)
    have hle : (1 : Int) ≤ s.size := by omega
    clear h h0 hq
    go_enter Tryz.func116, Tryz.ntmps116
    go_wp2_with (go_at_call 137; refine (HC.out _).mono ?_; rintro e w' ⟨rfl, rfl⟩)
    go_ret3
    exact ⟨rfl, rfl⟩
  · unfold Rb at h0
    have h2 : ¬ bt s 0 = 43 := by omega
    have h3 : ¬ bt s 0 = 105 := by omega
    have h4 : ¬ bt s 0 = 73 := by omega
    have h5 : ¬ bt s 0 = 110 := by omega
    have h6 : ¬ bt s 0 = 78 := by omega
    clear h h0
    go_enter Tryz.func116, Tryz.ntmps116
    go_wp2_with fail
    go_ret3
    exact ⟨rfl, rfl⟩
end Go.Proofs.YtcmhfeeocehlaaaGreatDoor
namespace Go.Proofs.YtcmhfeeocehlaaaGreatDoor
set_option linter.unusedSimpArgs false
set_option linter.unusedVariables false
open Go.RowKit Go.PlainAid
attribute [local go_sem ↓] Go.wp_at_zero Go.wp_at_succ

/-- what the loop over the digits has gathered -/
structure RF where
  mant : Int
  nd : Int
  ndm : Int
  dp : Int
  dot : Bool
  trunc : Bool
  digs : Bool
def rfStep (c : Int) (r : RF) : RF :=
  if c = 46 then { r with dot := true, dp := r.nd }
  else if c = 48 ∧ r.nd = 0 then { r with digs := true, dp := wrap64 (r.dp - 1) }
  else if r.ndm < 19 then { r with digs := true, nd := wrap64 (r.nd + 1), mant := IntKind.u64.wrap (IntKind.u64.wrap (r.mant * 10) + (c - 48)), ndm := wrap64 (r.ndm + 1) }
  else { r with digs := true, nd := wrap64 (r.nd + 1), trunc := r.trunc || c != 48 }
def rfAt (s : ByteArray) (i0 : Nat) : Nat → RF
  | 0 => ⟨0, 0, 0, 0, false, false, false⟩
  | j + 1 => rfStep (bt s (i0 + j)) (rfAt s i0 j)

/-- digits and at most one point stand from i0 to e -/
structure Dgs (s : ByteArray) (i0 e : Nat) : Prop where
  lt : i0 < e
  le : e ≤ s.size
  first : 48 ≤ bt s i0 ∧ bt s i0 ≤ 57
  all : ∀ k, i0 ≤ k → k < e → bt s k = 46 ∨ (48 ≤ bt s k ∧ bt s k ≤ 57)
  one : ∀ j k, i0 ≤ j → j < k → k < e → bt s j = 46 → bt s k ≠ 46

theorem rf_dot {s : ByteArray} {i0 : Nat} : ∀ j, (rfAt s i0 j).dot = true → ∃ k, i0 ≤ k ∧ k < i0 + j ∧ bt s k = 46
  | 0, h => by cases h
  | j + 1, h => by
    unfold rfAt rfStep at h
    split at h
    · rename_i hc
      exact ⟨i0 + j, by omega, by omega, hc⟩
    · have h' : (rfAt s i0 j).dot = true := by
        split at h
        · exact h
        · split at h
          · exact h
          · exact h
      obtain ⟨k, h1, h2, h3⟩ := rf_dot j h'
      exact ⟨k, h1, by omega, h3⟩
theorem rf_digs {s : ByteArray} {i0 : Nat} (h0 : 48 ≤ bt s i0) : ∀ j, (rfAt s i0 (j + 1)).digs = true
  | 0 => by
    unfold rfAt rfStep
    have : ¬ bt s (i0 + 0) = 46 := by simp; omega
    rw [if_neg this]
    split
    · rfl
    · split <;> rfl
  | j + 1 => by
    have ih := rf_digs h0 j
    rw [rfAt]
    unfold rfStep
    split
    · exact ih
    · split
      · rfl
      · split <;> rfl
theorem lower_rb (c : Int) (h : Rb c) (w : World) : Calls Tryz.prog 140 #[.int .u8 c] w fun e w' => e = .returned (.int .u8 c) ∧ w' = w := by
  have e : bits .or .u8 c 32 = c := by
    unfold Rb at h
    rcases h with h | h | h | h
    · subst h; decide
    · subst h; decide
    · have : c = 48 ∨ c = 49 ∨ c = 50 ∨ c = 51 ∨ c = 52 ∨ c = 53 ∨ c = 54 ∨ c = 55 ∨ c = 56 ∨ c = 57 := by omega
      rcases this with h | h | h | h | h | h | h | h | h | h <;> (subst h; decide)
    · subst h; decide
  have := Tryz.internal_strconv_lower c w
  rw [e] at this
  exact this

/-- the exponent of what was read, x behind the word e -/
def rfExp (r : RF) (x : Option Int) : Int := if r.mant = 0 then 0 else match x with
  | none => wrap64 ((if r.dot then r.dp else r.nd) - r.ndm)
  | some x => wrap64 (wrap64 ((if r.dot then r.dp else r.nd) + x) - r.ndm)
/-- the digits of the exponent, read -/
def exAt (s : ByteArray) (x0 : Nat) : Nat → Int
  | 0 => 0
  | j + 1 => if exAt s x0 j < 10000 then exAt s x0 j * 10 + bt s (x0 + j) - 48 else exAt s x0 j
end Go.Proofs.YtcmhfeeocehlaaaGreatDoor
