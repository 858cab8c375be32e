/-
  strconv.ParseFloat: a real's text is read: what readFloat and set say of it.
-/
import Derived.Test.YtcmhfeeocehlaaaGreatDoorPF5A
import Derived.Test.YtcmhfeeocehlaaaGreatDoorPF5B
import Derived.Test.YtcmhfeeocehlaaaGreatDoorPF5C
import Derived.Test.YtcmhfeeocehlaaaGreatDoorPF20
import Derived.Test.YtcmhfeeocehlaaaGreatDoorPF22A
import Derived.Test.YtcmhfeeocehlaaaGreatDoorPF22B
import Derived.Test.YtcmhfeeocehlaaaGreatDoorPF22C
namespace Go.Proofs.YtcmhfeeocehlaaaGreatDoor
set_option linter.unusedSimpArgs false
set_option linter.unusedVariables false
open Go.RowKit Go.PlainAid

/-- the exponent of a text: it begins behind e -/
def Exd (s : ByteArray) (e x0 : Nat) : Prop := bt s e = 101 ∧ x0 < s.size ∧ ∀ k, x0 ≤ k → k < s.size → 48 ≤ bt s k ∧ bt s k ≤ 57
/-- a real's text, as ParseFloat takes it -/
structure Wf (s : ByteArray) : Prop where
  tx : Rtx s
  sh : ∃ i0 e, Dgs s i0 e ∧ ((bt s 0 = 45 ∧ i0 = 1) ∨ (¬ bt s 0 = 45 ∧ i0 = 0)) ∧ (e = s.size ∨ Exd s e (e + 1) ∨ (Exd s e (e + 2) ∧ bt s (e + 1) = 45))

theorem rf_mant (s : ByteArray) (i0 : Nat) : ∀ j, 0 ≤ (rfAt s i0 j).mant ∧ (rfAt s i0 j).mant < 18446744073709551616
  | 0 => by simp [rfAt]
  | j + 1 => by
    have ih := rf_mant s i0 j
    rw [rfAt]
    unfold rfStep
    split
    · exact ih
    · split
      · exact ih
      · split
        · simp only; rw [IntKind.wrap_u64]; omega
        · exact ih
/-- a new decimal -/
def DS.zero : DS := ⟨fun _ => 0, 0, 0, false, false⟩
/-- a text is read by both -/
def Reads (s : ByteArray) (mant : Nat) (p : Int) (ng tr : Bool) : Prop :=
  mant < 18446744073709551616 ∧ (∀ w, Calls Tryz.prog 117 #[.string s] w fun en w' => en = .returned (.tuple #[.int .u64 (mant : Int), .int .i64 p, .bool ng, .bool tr, .bool false, .int .i64 s.size, .bool true]) ∧ w' = w) ∧
    (mant ≠ 0 → ∃ S : DS, S.Ok ∧ S.neg = ng ∧ ∀ (b : Nat) (w : World), DecAt w b DS.zero → Calls Tryz.prog 123 #[.pointer (some ⟨b, 0, none⟩), .string s] w fun en w' => en = .returned (.bool true) ∧ Tn (At1 b) w w' ∧ DecAt w' b S)
theorem ds_ok {s : ByteArray} {i0 e : Nat} (hd : Dgs s i0 e) (h100 : s.size ≤ 100) (hm : (rfAt s i0 (e - i0)).mant ≠ 0) (ng : Bool) (x : Option Int) : ((ssAt s i0 (e - i0)).ds ng x).Ok := by
  have h1 := ss_ok hd (e - i0) (by have := hd.lt; omega)
  have hle := hd.le
  obtain ⟨h2, h3, _⟩ := ss_rf s i0 (e - i0) (by omega)
  have h4 := (ss_bound s i0 (e - i0)).1
  have hn : 1 ≤ (ssAt s i0 (e - i0)).nd := by
    rcases Nat.eq_zero_or_pos (ssAt s i0 (e - i0)).nd with h | h
    · exact absurd (h3 h) hm
    · exact h
  refine ⟨hn, ?_, h1.1, h1.2 hn⟩
  show (ssAt s i0 (e - i0)).nd ≤ 800
  omega
theorem reads_ex (s : ByteArray) (h : Wf s) : ∃ mant p ng tr, Reads s mant p ng tr := by
  obtain ⟨tx, i0, e, hd, hs, hx⟩ := h
  have hsm := tx.small
  obtain ⟨m0, m1⟩ := rf_mant s i0 (e - i0)
  obtain ⟨m, hm⟩ : ∃ m : Nat, (rfAt s i0 (e - i0)).mant = (m : Int) := ⟨_, (Int.toNat_of_nonneg m0).symm⟩
  rw [hm] at m1
  have hnz : m ≠ 0 → (rfAt s i0 (e - i0)).mant ≠ 0 := fun h1 h2 => h1 (by omega)
  rcases hs with ⟨h45, rfl⟩ | ⟨h45, rfl⟩
  · rcases hx with rfl | ⟨x1, x2, x3⟩ | ⟨⟨x1, x2, x3⟩, x4⟩
    · refine ⟨m, rfExp (rfAt s 1 (s.size - 1)) none, true, (rfAt s 1 (s.size - 1)).trunc, by omega, fun w => ?_, fun h => ⟨_, ds_ok hd hsm (hnz h) true none, rfl, fun b w hw => set_plainN s s.size b w tx hd h45 _ rfl hw rfl⟩⟩
      have := readFloat_plainN s s.size w tx hd h45 _ rfl rfl
      rw [hm] at this
      exact this
    · refine ⟨m, rfExp (rfAt s 1 (e - 1)) (some (exAt s (e + 1) (s.size - (e + 1)))), true, (rfAt s 1 (e - 1)).trunc, by omega, fun w => ?_, fun h => ⟨_, ds_ok hd hsm (hnz h) true _, rfl, fun b w hw => set_expNp s e b w tx hd h45 _ rfl hw x1 x2 x3⟩⟩
      have := readFloat_expNp s e w tx hd h45 _ rfl x1 x2 x3
      rw [hm] at this
      exact this
    · refine ⟨m, rfExp (rfAt s 1 (e - 1)) (some (-exAt s (e + 2) (s.size - (e + 2)))), true, (rfAt s 1 (e - 1)).trunc, by omega, fun w => ?_, fun h => ⟨_, ds_ok hd hsm (hnz h) true _, rfl, fun b w hw => set_expNn s e b w tx hd h45 _ rfl hw x1 x2 x3 x4⟩⟩
      have := readFloat_expNn s e w tx hd h45 _ rfl x1 x2 x3 x4
      rw [hm] at this
      exact this
  · rcases hx with rfl | ⟨x1, x2, x3⟩ | ⟨⟨x1, x2, x3⟩, x4⟩
    · refine ⟨m, rfExp (rfAt s 0 (s.size - 0)) none, false, (rfAt s 0 (s.size - 0)).trunc, by omega, fun w => ?_, fun h => ⟨_, ds_ok hd hsm (hnz h) false none, rfl, fun b w hw => set_plainP s s.size b w tx hd h45 _ rfl hw rfl⟩⟩
      have := readFloat_plainP s s.size w tx hd h45 _ rfl rfl
      rw [hm] at this
      exact this
    · refine ⟨m, rfExp (rfAt s 0 (e - 0)) (some (exAt s (e + 1) (s.size - (e + 1)))), false, (rfAt s 0 (e - 0)).trunc, by omega, fun w => ?_, fun h => ⟨_, ds_ok hd hsm (hnz h) false _, rfl, fun b w hw => set_expPp s e b w tx hd h45 _ rfl hw x1 x2 x3⟩⟩
      have := readFloat_expPp s e w tx hd h45 _ rfl x1 x2 x3
      rw [hm] at this
      exact this
    · refine ⟨m, rfExp (rfAt s 0 (e - 0)) (some (-exAt s (e + 2) (s.size - (e + 2)))), false, (rfAt s 0 (e - 0)).trunc, by omega, fun w => ?_, fun h => ⟨_, ds_ok hd hsm (hnz h) false _, rfl, fun b w hw => set_expPn s e b w tx hd h45 _ rfl hw x1 x2 x3 x4⟩⟩
      have := readFloat_expPn s e w tx hd h45 _ rfl x1 x2 x3 x4
      rw [hm] at this
      exact this
/-- floatBits, of whatever decimal -/
theorem floatBits_ex (ch : Nat → Nat × ByteArray) (hch : ChOk ch) (pt : Nat → Nat) (hpt : ∀ i, i < 9 → 1 ≤ pt i ∧ pt i ≤ 60) (S : DS) (ok : S.Ok) :
    ∃ v o, ∀ (b : Nat) (g p : Nat × Nat) (w : World), DecAt w b S → Gb ch pt w b g p →
      Calls Tryz.prog 124 #[.pointer (some ⟨b, 0, none⟩), .pointer (some ⟨6, 0, none⟩)] w fun e w' => e = .returned (.tuple #[.int .u64 v, .bool o]) ∧ Tn (At1 b) w w' := by
  by_cases h1 : 310 < S.dp
  · exact ⟨_, _, fun b g p w h hg => fb_big ch pt S ok h1 b g p w h hg⟩
  · by_cases h2 : S.dp < -330
    · exact ⟨_, _, fun b g p w h hg => fb_small ch pt S ok h2 b g p w h hg⟩
    · exact fb_mid ch hch pt hpt S ok (by omega) (by omega)
end Go.Proofs.YtcmhfeeocehlaaaGreatDoor
