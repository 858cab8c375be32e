/-
  Of, Valid, Int64 of the program.
-/
import Derived.Test.YtcmhfeeocehlaaaGreatDoorBigB
import Derived.Laws.BitsAllLaws
import Derived.Lib.Strings
namespace Go.Proofs.YtcmhfeeocehlaaaGreatDoor
set_option linter.unusedSimpArgs false
set_option linter.unusedVariables false
open Go.RowKit
attribute [local go_sem ↓] Go.wp_at_zero Go.wp_at_succ

theorem row_two (w : World) (g m : Nat) (hg : w.heap.size = g) : Row (w.alloc (.cells #[.int .u32 ((m : Int) % 4294967296), .int .u32 ((m : Int) / 4294967296)] 84)) g ([m % 4294967296, m / 4294967296] ++ []) := by
  subst hg
  refine ⟨[], ?_⟩
  rw [heap_alloc_new]
  simp [cl]
theorem lims_two {p q : Nat} (hp : p < 4294967296) (hq : q < 4294967296) : Lims [p, q] := by
  intro x hx; simp at hx; omega
theorem val_two (m : Nat) (h : m < 18446744073709551616) : val [m % 4294967296, m / 4294967296] = m := by
  simp only [val, B32_eq]; omega
theorem wrap_neg (m : Nat) (h : m ≤ 9223372036854775808) (h0 : 0 < m) : IntKind.u64.wrap (-IntKind.u64.wrap (-(m : Int))) = m := by
  simp only [IntKind.wrap, IntKind.signed, IntKind.bits]
  simp
  omega

/-- an integer stands as it should -/
def Std (s : Bool) (l : List Nat) : Bool := if l.length = 0 then !s else decide ((tr l).length = l.length)

end Go.Proofs.YtcmhfeeocehlaaaGreatDoor
namespace Go.Proofs.YtcmhfeeocehlaaaGreatDoor
set_option linter.unusedSimpArgs false
set_option linter.unusedVariables false
open Go.RowKit

theorem or_nat (r p : Nat) (hp : p < 4294967296) : r * 4294967296 ||| p = r * 4294967296 + p := by
  have h := Nat.shiftLeft_add_eq_or_of_lt (i := 32) (b := p) (show p < 2 ^ 32 by simpa using hp) r
  rw [Nat.shiftLeft_eq] at h
  have e : (2 : Nat) ^ 32 = 4294967296 := by decide
  rw [e] at h
  exact h.symm
theorem or_hi (r p : Nat) (hr : r < 4294967296) (hp : p < 4294967296) : bits .or .u64 ((r : Int) * 4294967296) (p : Int) = ((r * 4294967296 + p : Nat) : Int) := by
  have h := u64_or_nat (r * 4294967296) p (by omega) (by omega)
  rw [or_nat r p hp] at h
  rw [← h]
  simp

theorem step_gen (b : Nat) {X Q dv r p q s : Nat} (h : X = Q * dv + r) (h2 : dv * q + s = r * b + p) : p + b * X = (q + b * Q) * dv + s := by
  subst h
  grind

theorem divBy_step {out Q : List Nat} {m r dv p : Nat} (hm : m < out.length) (hp : out.getD m 0 = p) (h : val (out.drop (m + 1)) = val Q * dv + r) (hd : 0 < dv) :
    val (out.drop m) = val ((r * 4294967296 + p) / dv :: Q) * dv + (r * 4294967296 + p) % dv := by
  have e : out.drop m = p :: out.drop (m + 1) := by
    rw [List.drop_eq_getElem_cons hm, ← hp, List.getD_eq_getElem?_getD, List.getElem?_eq_getElem hm]; rfl
  rw [e]
  simp only [val]
  exact step_gen B32 h (by rw [B32_eq]; exact Nat.div_add_mod _ _)

def DivByPost (w : World) (g dv : Nat) (out S : List Nat) (e : Ending) (w' : World) : Prop :=
  ∃ N r, e = .returned (.int .u32 ((r : Nat) : Int)) ∧ Row w' g (N ++ S) ∧ N.length = out.length ∧ Lims N ∧ r < dv ∧ val out = val N * dv + r ∧ w.grownBy w' (some g)

end Go.Proofs.YtcmhfeeocehlaaaGreatDoor
namespace Go.Proofs.YtcmhfeeocehlaaaGreatDoor
set_option linter.unusedSimpArgs false
set_option linter.unusedVariables false
open Go.RowKit

theorem muladd_step {N : List Nat} {k c c' d f mo p Y : Nat} (hk : N.length = k) (h : val N + B32 ^ k * c = Y * f + mo) (e : c + p * f = d + B32 * c') :
    val (N ++ [d]) + B32 ^ (k + 1) * c' = (Y + B32 ^ k * p) * f + mo := by
  subst hk
  rw [val_snoc, Nat.pow_succ]
  have : B32 ^ N.length * (c + p * f) = B32 ^ N.length * (d + B32 * c') := by rw [e]
  grind

/-- limbs of the call's own that may grow: nil, or at the head of a block -/
structure HD (w : World) (B : Nat) (a : Option Addr) (n c : Nat) (l : List Nat) : Prop where
  own : w.ownsRow B 84 1 (.slice a n c) n (cl l)
  lim : Lims l
theorem HD.len {w : World} {B : Nat} {a : Option Addr} {n c : Nat} {l : List Nat} (h : HD w B a n c l) : l.length = n := by
  have := h.own.1; simpa [cl] using this
theorem HD.form {w : World} {B : Nat} {a : Option Addr} {n c : Nat} {l : List Nat} (h : HD w B a n c l) (hn : 0 < n) : ∃ g, a = some ⟨g, 0, none⟩ ∧ B ≤ g ∧ g < w.heap.size := by
  obtain ⟨g, cap, hv, hb, hg⟩ := h.own.form hn
  cases hv
  exact ⟨g, rfl, hb, hg⟩
theorem HD.nil' (w : World) (B : Nat) : HD w B none 0 0 [] := ⟨World.ownsRow_nil _ _ _ _, (by intro x hx; cases hx)⟩
theorem own_set {w : World} {B g n c k d : Nat} {N l : List Nat} (h : w.ownsRow B 84 1 (.slice (some ⟨g, 0, none⟩) n c) n (cl (N ++ l.drop k))) (hN : N.length = k) (hk : k < l.length) (v : Value) (hv : v = .int .u32 (d : Int)) :
    (w.setCell ⟨g, k, none⟩ v).ownsRow B 84 1 (.slice (some ⟨g, 0, none⟩) n c) n (cl ((N ++ [d]) ++ l.drop (k + 1))) := by
  subst hv
  have h2 := h.stored k (.int .u32 (d : Int))
  have e : (cl (N ++ l.drop k)).set k (.int .u32 (d : Int)) = cl ((N ++ [d]) ++ l.drop (k + 1)) := by
    rw [List.drop_eq_getElem_cons hk, cl_append, List.set_append_right _ _ (by rw [cl_length]; omega), cl_length, hN, Nat.sub_self]
    simp only [cl_append, List.append_assoc]
    rfl
  rw [e] at h2
  exact h2.1
theorem block_eq (a : Option Addr) (n c n' c' : Nat) : (Value.slice a n c).ownBlock = (Value.slice a n' c').ownBlock := by cases a <;> rfl
theorem own_get {w : World} {B g n c k : Nat} {N l : List Nat} (h : w.ownsRow B 84 1 (.slice (some ⟨g, 0, none⟩) n c) n (cl (N ++ l.drop k))) (hN : N.length = k) (hk : k < l.length) (hn : l.length = n) : w.cell? ⟨g, k, none⟩ = some (.int .u32 ((l.getD k 0 : Nat) : Int)) := by
  rw [h.cellAt k (by omega), cl_get _ _ (by simp; omega)]
  congr 3
  simp only [List.getD_eq_getElem?_getD]
  rw [List.getElem?_append_right (by omega), hN, Nat.sub_self, List.getElem?_drop, Nat.add_zero]

/-- what multiplyAdd answers -/
def MAPost (w : World) (B : Nat) (a : Option Addr) (n : Nat) (z : Nat) (e : Ending) (w' : World) : Prop :=
  ∃ a' n' c' N, e = .returned (.slice a' n' c') ∧ HD w' B a' n' c' N ∧ val N = z ∧ n' ≤ n + 1 ∧ w.grownBy w' (Value.slice a n 0).ownBlock

set_option maxHeartbeats 1600000 in
set_option maxRecDepth 100000 in
theorem multiplyAdd_raw (B : Nat) (a : Option Addr) (n c f mo : Nat) (l : List Nat) (w : World) (h : HD w B a n c l) (hB : B ≤ w.heap.size) (hn : n + 1 ≤ 35184372088832) (hf : f < 4294967296) (hm : mo < 4294967296) :
    Calls Tryz.prog 110 #[.slice a n c, .int .u32 ((f : Nat) : Int), .int .u32 ((mo : Nat) : Int)] w (MAPost w B a n (val l * f + mo)) := by
  obtain ⟨i0, hi, hz0, hz1, hz2⟩ := info_parts u32_info
  have hlen := h.len
  have hlim := h.lim
  have hform := fun hn => h.form hn
  have hown := h.own
  clear h
  go_enter Tryz.func110, Tryz.ntmps110
  go_wp2
  go_loopw [7, 14] (fun cr i wr => ∃ (k cy : Nat) (N : List Nat), k ≤ n ∧ i = .int .i64 k ∧ cr = .int .u64 cy ∧ cy ≤ 4294967295 ∧ N.length = k ∧ Lims N ∧ val N + B32 ^ k * cy = val (l.take k) * f + mo ∧
      wr.ownsRow B 84 1 (.slice a n c) n (cl (N ++ l.drop k)) ∧ w.grownBy wr (Value.slice a n 0).ownBlock) (fun _ i _ => n - (intOf i).toNat)
  case atStart => exact ⟨0, mo, [], by omega, rfl, rfl, by omega, rfl, (by intro x hx; cases hx), by simp [val], by simpa using hown, gb_refl _ _⟩
  case round =>
    obtain ⟨k, cy, N, hk, rfl, rfl, hcy, hN, hNl, hv, hown2, hg⟩ := hrel
    have HV := hid1 hv
    clear hv
    by_cases hlt : k < n
    · obtain ⟨g, rfl, hBg, hgl⟩ := hform (by omega)
      have hco := own_get hown2 hN (by omega) hlen
      have hfo := hown2.frozenAt k
      have hlo' := lims_getD hlim k
      have E1 : Hid (val (l.take (k + 1)) = val (l.take k) + B32 ^ k * l.getD k 0) := val_take_succ l k
      generalize l.getD k 0 = p at *
      have hpr := mul_lt (show p ≤ 4294967295 by omega) (show f ≤ 4294967295 by omega)
      have hpr' : (p : Int) * (f : Int) = ((p * f : Nat) : Int) := by simp
      generalize hdq : p * f = t at *
      have HDQ := hid1 hdq
      clear hdq
      go_wp2
      go_roundw
      case rel =>
        refine ⟨k + 1, (cy + t) / 4294967296, N ++ [(cy + t) % 4294967296], by omega, by go_num, by go_num, by omega, by simp; omega, lims_snoc hNl (by omega), ?_, own_set hown2 hN (by omega) _ (by go_num), gb_set hg _ _ (.inl rfl)⟩
        rw [E1.out]
        exact muladd_step hN HV.out (by rw [HDQ.out, B32_eq]; omega)
      case measure => simp [intOf]; omega
    · have hkn : k = n := by omega
      subst hkn
      have HV2 : Hid (val N + B32 ^ k * cy = val l * f + mo) := by
        have := HV.out
        rwa [List.take_of_length_le (by omega)] at this
      clear HV
      rw [List.drop_of_length_le (by omega), List.append_nil] at hown2
      by_cases hc0 : cy = 0
      · subst hc0
        go_wp2
        go_ret
        have hv := HV2.out
        rw [Nat.mul_zero, Nat.add_zero] at hv
        exact ⟨a, k, c, N, rfl, ⟨hown2, hNl⟩, hv, by omega, hg⟩
      · go_wp2_with (at_builtin; refine wpList_append_lies _ rfl (.tmp 36) (.tmp 39) 33 rfl B 84 i0 (.int .u32 0) 1 4 Tryz.underlying33 hi hz0 hz1 hz2 rfl (by decide) (.slice a k c) k (cl N) rfl (hown2.alloc _) ⟨wr.heap.size, 0, none⟩ 1 1 [.int .u32 ((cy : Nat) : Int)] rfl rfl (cell_one_new _ _ _) (by intro u hu; simp at hu; subst hu; rfl) (by omega) (by unfold maxLen; omega) (by omega) (by have := hg.size; simp; omega) (wr.heap.size + 1) (by simp) ?_; intro g cap w1 hown3 hgrow hat hlt3)
        go_ret
        rw [block_eq a k c k 0] at hgrow
        refine ⟨_, k + 1, cap, N ++ [cy], rfl, ⟨by simpa [cl] using hown3, lims_snoc hNl (by omega)⟩, ?_, Nat.le_refl _, gb_same (gb_alloc hg _) hgrow⟩
        rw [val_snoc, hN]
        exact HV2.out
end Go.Proofs.YtcmhfeeocehlaaaGreatDoor
namespace Go.Proofs.YtcmhfeeocehlaaaGreatDoor
set_option linter.unusedSimpArgs false
set_option linter.unusedVariables false
open Go.RowKit
attribute [local go_sem ↓] Go.wp_at_zero Go.wp_at_succ

/-- the number that decimal digits say -/
def dval (l : List UInt8) : Nat := l.foldl (fun a c => a * 10 + (c.toNat - 48)) 0
def isDig (c : UInt8) : Bool := decide (48 ≤ c.toNat) && decide (c.toNat ≤ 57)
def allDig (l : List UInt8) : Bool := l.all isDig && !l.isEmpty

theorem take_snoc8 (s : ByteArray) (k : Nat) (h : k < s.size) : s.data.toList.take (k + 1) = s.data.toList.take k ++ [s[k]] := by
  rw [List.take_succ_eq_append_getElem (by simpa using h)]; rfl

set_option maxHeartbeats 800000 in
theorem allDigits_raw (s : ByteArray) (w : World) (hs : s.size ≤ maxLen) :
    Calls Tryz.prog 97 #[.string s] w fun e w' => e = .returned (.bool (allDig s.data.toList)) ∧ w' = w := by
  unfold maxLen at hs
  go_enter Tryz.func97, Tryz.ntmps97
  go_wp2
  go_loop [6] (fun i => ∃ k : Nat, k ≤ s.size ∧ i = .int .i64 k ∧ (s.data.toList.take k).all isDig = true) (fun i => s.size - (intOf i).toNat)
  case atStart => exact ⟨0, Nat.zero_le _, rfl, rfl⟩
  case round =>
    obtain ⟨k, hk, rfl, hall⟩ := hrel
    have HA := hid1 hall
    clear hall
    by_cases hlt : k < s.size
    · have HT := hid1 (take_snoc8 s k hlt)
      by_cases hd : isDig s[k] = true
      · have HD2 := hid1 hd
        have h2 : 48 ≤ (s[k].toNat : Int) ∧ (s[k].toNat : Int) ≤ 57 := by simp [isDig] at hd; omega
        obtain ⟨h3, h4⟩ := h2
        clear hd
        go_wp2
        go_round
        case rel => exact ⟨k + 1, by omega, by go_num, by rw [HT.out, List.all_append, HA.out]; simp [HD2.out]⟩
        case measure => simp [intOf]; omega
      · have HN : Hid (allDig s.data.toList = false) := by
          have hm : s[k] ∈ s.data.toList := by
            have : s[k] = s.data.toList[k]'(by simpa using hlt) := rfl
            rw [this]; exact List.getElem_mem _
          show allDig _ = false
          unfold allDig
          rw [Bool.and_eq_false_iff]
          left
          rw [List.all_eq_false]
          exact ⟨_, hm, hd⟩
        have h2 : (s[k].toNat : Int) < 48 ∨ 57 < (s[k].toNat : Int) := by simp [isDig] at hd; omega
        clear hd
        rcases h2 with h2 | h2
        · go_wp2
          go_ret
          exact ⟨ret_bool1 HN.out.symm, rfl⟩
        · have h3 : ¬ (s[k].toNat : Int) < 48 := by omega
          go_wp2
          go_ret
          exact ⟨ret_bool1 HN.out.symm, rfl⟩
    · have hks : k = s.size := by omega
      have HN : Hid (allDig s.data.toList = decide (0 < s.size)) := by
        have h1 := HA.out
        rw [List.take_of_length_le (by simp; omega)] at h1
        show allDig _ = _
        unfold allDig
        rw [h1, Bool.true_and, Bool.eq_iff_iff]
        have e : s.data.toList.length = s.size := by rw [Array.length_toList]; rfl
        cases hl : s.data.toList with
        | nil =>
          have e' : s.size = 0 := by rw [← e, hl]; rfl
          simp [e']
        | cons x r =>
          have e' : s.size = r.length + 1 := by rw [← e, hl]; rfl
          simp [e']
      subst hks
      go_wp2
      go_ret
      exact ⟨ret_bool1 (by rw [HN.out]), rfl⟩

theorem take1 (s : ByteArray) : (s.extract 0 1).toList = s.data.toList.take 1 := by
  rw [Lib.extract_toList]; simp

set_option maxHeartbeats 800000 in
theorem hasPrefix_one (s : ByteArray) (w : World) (hs : s.size ≤ maxLen) :
    Calls Tryz.prog 71 #[.string s, .string ⟨#[126]⟩] w fun e w' => e = .returned (.bool (s.data.toList.take 1 == [126])) ∧ w' = w := by
  unfold maxLen at hs
  have HT := hid1 (take1 s)
  by_cases h1 : 1 ≤ s.size
  · have h1' : (1 : Int) ≤ (s.size : Int) := by omega
    go_enter Tryz.func71, Tryz.ntmps71
    go_wp2
    go_ret
    exact ⟨ret_bool1 (by rw [HT.out]), rfl⟩
  · have HN : Hid ((s.data.toList.take 1 == [126]) = false) := by
      have e : s.data.toList.length = s.size := by rw [Array.length_toList]; rfl
      have : s.data.toList = [] := List.length_eq_zero_iff.1 (by omega)
      show _ = _
      rw [this]; rfl
    go_enter Tryz.func71, Tryz.ntmps71
    go_wp2
    go_ret
    exact ⟨ret_bool1 HN.out.symm, rfl⟩

set_option maxHeartbeats 800000 in
theorem cut_yes (s : ByteArray) (w : World) (hs : s.size ≤ maxLen) (h : (s.data.toList.take 1 == [126]) = true) :
    Calls Tryz.prog 80 #[.string s, .string ⟨#[126]⟩] w fun e w' => e = .returned (.tuple #[.string (s.extract 1 s.size), .bool true]) ∧ w' = w := by
  have h1 : 1 ≤ s.size := by
    have e : s.data.toList.length = s.size := by rw [Array.length_toList]; rfl
    have := congrArg List.length (eq_of_beq h)
    simp at this
    omega
  have hs' := hs
  unfold maxLen at hs'
  have h1' : (1 : Int) ≤ (s.size : Int) := by omega
  go_enter Tryz.func80, Tryz.ntmps80
  go_wp2_with (first | (go_at_call 71; refine (hasPrefix_one s _ hs).mono ?_; rintro e w' ⟨rfl, rfl⟩) | go_in)
  go_ret2
  exact ⟨rfl, rfl⟩
set_option maxHeartbeats 800000 in
theorem cut_no (s : ByteArray) (w : World) (hs : s.size ≤ maxLen) (h : (s.data.toList.take 1 == [126]) = false) :
    Calls Tryz.prog 80 #[.string s, .string ⟨#[126]⟩] w fun e w' => e = .returned (.tuple #[.string s, .bool false]) ∧ w' = w := by
  go_enter Tryz.func80, Tryz.ntmps80
  go_wp2_with (first | (go_at_call 71; refine (hasPrefix_one s _ hs).mono ?_; rintro e w' ⟨rfl, rfl⟩) | go_in)
  go_ret2
  exact ⟨rfl, rfl⟩

/-- so many bytes of a text -/
def strSize : Value → Nat | .string t => t.size | _ => 0

theorem dval_snoc (l : List UInt8) (c : UInt8) : dval (l ++ [c]) = dval l * 10 + (c.toNat - 48) := by simp [dval]
theorem foldl_dval (l : List UInt8) (a : Nat) : l.foldl (fun a c => a * 10 + (c.toNat - 48)) a = a * 10 ^ l.length + dval l := by
  induction l generalizing a with
  | nil => simp [dval]
  | cons c l ih =>
    simp only [List.foldl_cons, List.length_cons, dval, Nat.zero_mul, Nat.zero_add]
    rw [ih, ih (c.toNat - 48), Nat.pow_succ]
    grind
theorem dval_append (l r : List UInt8) : dval (l ++ r) = dval l * 10 ^ r.length + dval r := by
  unfold dval
  rw [List.foldl_append, foldl_dval]
  rfl
theorem dval_lt (l : List UInt8) (h : l.all isDig = true) : dval l < 10 ^ l.length := by
  have key : ∀ (r : List UInt8), r.all isDig = true → dval r < 10 ^ r.length := by
    intro r
    induction r with
    | nil => intro _; simp [dval]
    | cons c r ih =>
      intro h
      simp only [List.all_cons, Bool.and_eq_true] at h
      have h1 := ih h.2
      have h2 : c.toNat - 48 ≤ 9 := by have := h.1; simp [isDig] at this; omega
      have e : dval (c :: r) = (c.toNat - 48) * 10 ^ r.length + dval r := by
        have := dval_append [c] r
        simpa [dval] using this
      rw [e, List.length_cons, Nat.pow_succ]
      have h3 : (c.toNat - 48) * 10 ^ r.length ≤ 9 * 10 ^ r.length := Nat.mul_le_mul_right _ h2
      omega
  exact key l h

/-- what magnitudeOf answers -/
def MagPost (w : World) (z : Nat) (k : Nat) (e : Ending) (w' : World) : Prop :=
  ∃ a n c N, e = .returned (.slice a n c) ∧ HD w' w.heap.size a n c N ∧ val N = z ∧ n ≤ k ∧ w.grownBy w' none

set_option maxHeartbeats 1600000 in
theorem magnitudeOf_raw (s : ByteArray) (w : World) (hs : s.size ≤ 1000000000000) (hd : s.data.toList.all isDig = true) :
    Calls Tryz.prog 99 #[.string s] w (MagPost w (dval s.data.toList) s.size) := by
  go_enter Tryz.func99, Tryz.ntmps99
  go_wp2
  go_loopw [0, 3] (fun st mg wr => ∃ (j : Nat) (t : ByteArray) (a : Option Addr) (n c : Nat) (N : List Nat), st = .string t ∧ t.data.toList = s.data.toList.drop j ∧ j ≤ s.size ∧ (t.size % 9 = 0 ∨ j = 0) ∧ mg = .slice a n c ∧ HD wr w.heap.size a n c N ∧
      val N = dval (s.data.toList.take j) ∧ n ≤ j ∧ w.grownBy wr none) (fun st _ _ => strSize st)
  case atStart => exact ⟨0, s, none, 0, 0, [], rfl, by simp, by omega, .inr rfl, rfl, HD.nil' _ _, by simp [val, dval], by omega, gb_refl _ _⟩
  case round =>
    obtain ⟨j, t, a, n, c, N, rfl, ht, hj, h9, rfl, hHD, hv, hn, hg⟩ := hrel
    have HV := hid1 hv
    have HT := hid1 ht
    clear hv ht
    have hsl : s.data.toList.length = s.size := by rw [Array.length_toList]; rfl
    have htl : t.data.toList.length = t.size := by rw [Array.length_toList]; rfl
    have hts : t.size = s.size - j := by rw [← htl, HT.out, List.length_drop, hsl]
    have HTS := hid1 hts
    have hle : t.size ≤ 1000000000000 := by omega
    have HTL := hid1 htl
    have HSL := hid1 hsl
    have hjs : t.size + j = s.size := by omega
    have HJ := hid1 hjs
    clear hts htl hsl hjs
    by_cases h0 : t.size = 0
    · have hn0 : ¬ (0 : Int) < (t.size : Int) := by omega
      go_wp2
      go_ret
      have e : j = s.size := by have := HJ.out; omega
      have hv := HV.out
      rw [e, List.take_of_length_le (by rw [HSL.out]; exact Nat.le_refl _)] at hv
      exact ⟨a, n, c, N, rfl, hHD, hv, by omega, hg⟩
    · have h1 : 1 ≤ t.size := by omega
      have hp1 : (t.size - 1) % 9 + 1 ≤ 9 := by omega
      have hp2 : (t.size - 1) % 9 + 1 ≤ t.size := by omega
      have hp3 : ((t.size : Int) - 1) % 9 + 1 = (((t.size - 1) % 9 + 1 : Nat) : Int) := by omega
      generalize hp : (t.size - 1) % 9 + 1 = p at *
      have HP := hid1 hp
      have htd : t.data.toList.all isDig = true := by
        rw [HT.out]
        rw [List.all_eq_true] at hd ⊢
        intro x hx
        exact hd x (List.mem_of_mem_drop hx)
      clear hp
      have hb9 : decide (0 < t.size) = true := decide_eq_true (by omega)
      go_wp2
      go_loop [5, 16] (fun gr i => ∃ k : Nat, k ≤ p ∧ i = .int .i64 k ∧ gr = .int .u32 ((dval (t.data.toList.take k) : Nat) : Int)) (fun _ i => p - (intOf i).toNat)
      case atStart => exact ⟨0, by omega, rfl, by simp [dval]⟩
      case round =>
        obtain ⟨k, hk, rfl, rfl⟩ := hrel
        have htk : (t.data.toList.take k).all isDig = true := by
          rw [List.all_eq_true] at htd ⊢
          intro x hx
          exact htd x (List.mem_of_mem_take hx)
        have hlt10 := dval_lt _ htk
        have hlk : (t.data.toList.take k).length = k := by rw [List.length_take, HTL.out]; omega
        rw [hlk] at hlt10
        have hp10 : (10 : Nat) ^ k ≤ 10 ^ 9 := Nat.pow_le_pow_right (by omega) (by omega)
        have e109 : (10 : Nat) ^ 9 = 1000000000 := by decide
        have hg9 : dval (t.data.toList.take k) < 1000000000 := by omega
        by_cases hlt : k < p
        · have hp8 : (10 : Nat) ^ k ≤ 10 ^ 8 := Nat.pow_le_pow_right (by omega) (by omega)
          have e108 : (10 : Nat) ^ 8 = 100000000 := by decide
          have hg8 : dval (t.data.toList.take k) < 100000000 := by omega
          have hkt : k < t.size := by omega
          have HS := hid1 (take_snoc8 t k hkt)
          have hdk : isDig t[k] = true := by
            rw [List.all_eq_true] at htd
            have : t[k] = t.data.toList[k]'(by rw [HTL.out]; exact hkt) := rfl
            rw [this]; exact htd _ (List.getElem_mem _)
          have h2 : 48 ≤ (t[k].toNat : Int) ∧ (t[k].toNat : Int) ≤ 57 := by simp [isDig] at hdk; omega
          obtain ⟨h3, h4⟩ := h2
          have HD1 : Hid (dval (t.data.toList.take (k + 1)) = dval (t.data.toList.take k) * 10 + (t[k].toNat - 48)) := by
            rw [HS.out, dval_snoc]; exact rfl
          clear hlt10 hp10 e109 hp8 e108 hdk htk hlk
          generalize dval (t.data.toList.take k) = gv at *
          go_wp2
          go_round
          case rel => exact ⟨k + 1, by omega, by go_num, by rw [HD1.out]; go_num⟩
          case measure => simp [intOf]; omega
        · have hkp : k = p := by omega
          subst hkp
          clear hlt10 hp10 e109 htk hlk
          generalize hgv : dval (t.data.toList.take k) = gv at *
          have HGV := hid1 hgv
          clear hgv
          go_wp2_with (go_at_call 110; refine (multiplyAdd_raw w.heap.size a n c 1000000000 gv N _ hHD hg.size (by omega) (by omega) (by omega)).mono ?_; rintro e w1 ⟨a1, n1, c1, N1, rfl, hHD1, hv1, hn1, hg1⟩; have HV1 := hid1 hv1; clear hv1)
          have hJ := HJ.out
          have hP := HP.out
          have hT := HT.out
          have hTL := HTL.out
          have hex : (t.extract k t.size).data.toList = s.data.toList.drop (j + k) := by
            rw [Lib.extract_data, hT, List.drop_drop, List.take_of_length_le (by rw [List.length_drop, HSL.out]; omega)]
          have hexs : (t.extract k t.size).size = t.size - k := by
            rw [Lib.size_eq, hex, List.length_drop, HSL.out]; omega
          have hv : val N1 = dval (s.data.toList.take (j + k)) := by
            rw [HV1.out, HV.out, List.take_add, dval_append, ← hT, HGV.out, List.length_take, hTL, Nat.min_eq_left (by omega)]
            rcases h9 with h9 | h9
            · have : k = 9 := by omega
              rw [this]
            · rw [h9]; simp [dval]
          have hgr : w.grownBy w1 none := gb_then hg hg1 (fun i e => by rw [block_eq a n 0 n c] at e; exact (hHD.own.lt i e).1)
          clear hJ hT hTL
          go_roundw
          case rel => exact ⟨j + k, t.extract k t.size, a1, n1, c1, N1, rfl, hex, by have := HJ.out; omega, by rw [hexs]; omega, rfl, hHD1, hv, by omega, hgr⟩
          case measure =>
            show (t.extract k t.size).size < t.size
            rw [hexs]; omega
end Go.Proofs.YtcmhfeeocehlaaaGreatDoor
namespace Go.Proofs.YtcmhfeeocehlaaaGreatDoor
set_option linter.unusedSimpArgs false
set_option linter.unusedVariables false
open Go.RowKit
attribute [local go_sem ↓] Go.wp_at_zero Go.wp_at_succ

theorem HD.ow {w : World} {B : Nat} {a : Option Addr} {n c : Nat} {l : List Nat} (h : HD w B a n c l) (hn : n ≤ 35184372088832) : OW w B a n c l := by
  have hl := h.len
  have hlim := h.lim
  rcases h.own.2 with ⟨hv, h0⟩ | ⟨g, cap, cur, hv, hb, hg, hnc, hm, hs, ht⟩
  · cases hv
    obtain rfl : l = [] := List.length_eq_zero_iff.1 hl
    exact OW.nil' w B
  · cases hv
    have hr : Row w g (l ++ []) := ⟨cur.toList.drop (n * 1), by rw [hg, List.append_nil, ← ht, List.take_append_drop]⟩
    exact OW.of_row hr hb hl hnc hn hm hlim

/-- what Parse answers of a number's text -/
def ParseYes (w : World) (z : Int) (k : Nat) (e : Ending) (w' : World) : Prop :=
  ∃ s a l, e = .returned (.tuple #[.agg #[.bool s, .slice a l.length l.length], .int .i64 0]) ∧ OW w' w.heap.size a l.length l.length l ∧ Nrm l ∧ (s = true → l ≠ []) ∧ iv s l = z ∧ l.length ≤ k ∧ w.grownBy w' none
/-- and of any other -/
def ParseNo (w : World) (e : Ending) (w' : World) : Prop := e = .returned (.tuple #[.agg #[.bool false, .slice none 0 0], .int .i64 11]) ∧ w.grownBy w' none

set_option maxHeartbeats 1600000 in
theorem parse_no1 (s t : ByteArray) (neg : Bool) (w : World) (ht : t.size ≤ maxLen) (hcut : ∀ w, Calls Tryz.prog 80 #[.string s, .string ⟨#[126]⟩] w fun e w' => e = .returned (.tuple #[.string t, .bool neg]) ∧ w' = w)
    (hd : allDig t.data.toList = false) : Calls Tryz.prog 82 #[.string s] w (ParseNo w) := by
  have HC := hid1 hcut
  clear hcut
  go_enter Tryz.func82, Tryz.ntmps82
  go_wp2_with (first
    | (go_at_call 80; refine (HC.out _).mono ?_; rintro e w' ⟨rfl, rfl⟩)
    | (go_at_call 97; refine (allDigits_raw t _ ht).mono ?_; rintro e w' ⟨rfl, rfl⟩))
  refine bodyPost_ret (v := .tuple #[.agg #[.bool false, .slice none 0 0], .int .i64 11]) (by simp [results, Tryz.results82, go_sem]) rfl ⟨rfl, ?_⟩
  exact (by repeat (first | exact gb_refl _ _ | apply gb_drew | apply gb_alloc | (refine gb_then ?_ (by assumption) (by simp))))

set_option maxHeartbeats 1600000 in
theorem parse_no2 (s t : ByteArray) (neg : Bool) (w : World) (ht : t.size ≤ maxLen) (hcut : ∀ w, Calls Tryz.prog 80 #[.string s, .string ⟨#[126]⟩] w fun e w' => e = .returned (.tuple #[.string t, .bool neg]) ∧ w' = w)
    (hd : allDig t.data.toList = true) (h0 : 0 < t.size) (hz : ((t[0].toNat : Int) == 48) = true) (hs : (s.toList == [48]) = false) : Calls Tryz.prog 82 #[.string s] w (ParseNo w) := by
  have HC := hid1 hcut
  clear hcut
  go_enter Tryz.func82, Tryz.ntmps82
  go_wp2_with (first
    | (go_at_call 80; refine (HC.out _).mono ?_; rintro e w' ⟨rfl, rfl⟩)
    | (go_at_call 97; refine (allDigits_raw t _ ht).mono ?_; rintro e w' ⟨rfl, rfl⟩))
  refine bodyPost_ret (v := .tuple #[.agg #[.bool false, .slice none 0 0], .int .i64 11]) (by simp [results, Tryz.results82, go_sem]) rfl ⟨rfl, ?_⟩
  exact (by repeat (first | exact gb_refl _ _ | apply gb_drew | apply gb_alloc | (refine gb_then ?_ (by assumption) (by simp))))

/-- the tail of Parse that makes the number -/
theorem parse_end {w w5 : World} {g B k : Nat} {z : Int} {s : Bool} {a : Option Addr} {l : List Nat} (hg : w.grownBy w5 none) (ho : OW w5 B a l.length l.length l) (hgB : g < B) (hw : w.heap.size ≤ g) (hB : w.heap.size ≤ B)
    (hn : Nrm l) (hs : s = true → l ≠ []) (hz : iv s l = z) (hk : l.length ≤ k) (v0 v1 : Value) :
    ParseYes w z k (.returned (.tuple #[.agg #[.bool s, .slice a l.length l.length], .int .i64 0])) ((w5.setCell ⟨g, 0, none⟩ v0).setCell ⟨g, 1, none⟩ v1) := by
  have h3 : w5.grownBy ((w5.setCell ⟨g, 0, none⟩ v0).setCell ⟨g, 1, none⟩ v1) (some g) := gb_set (gb_set (gb_refl _ _) _ _ (.inl rfl)) _ _ (.inl rfl)
  exact ⟨s, a, l, rfl, (ho.kept h3 (fun i e => by cases e; exact ho.off hgB)).mono hB, hn, hs, hz, hk, gb_then hg h3 (fun i e => by cases e; exact hw)⟩

theorem iv_dval (neg : Bool) {N : List Nat} {z : Nat} (h : val N = z) : iv neg N = if neg = true then -(z : Int) else (z : Int) := by
  unfold iv; rw [h]

set_option maxHeartbeats 1600000 in
theorem parse_yes1 (s t : ByteArray) (neg : Bool) (w : World) (ht : t.size ≤ 1000000000000) (hcut : ∀ w, Calls Tryz.prog 80 #[.string s, .string ⟨#[126]⟩] w fun e w' => e = .returned (.tuple #[.string t, .bool neg]) ∧ w' = w)
    (hd : allDig t.data.toList = true) (h0 : 0 < t.size) (hz : ((t[0].toNat : Int) == 48) = false) : Calls Tryz.prog 82 #[.string s] w (ParseYes w (if neg = true then -(dval t.data.toList : Int) else (dval t.data.toList : Int)) t.size) := by
  have HC := hid1 hcut
  have had : t.data.toList.all isDig = true := by
    unfold allDig at hd; exact (Bool.and_eq_true_iff.1 hd).1
  have htm : t.size ≤ maxLen := by unfold maxLen; omega
  clear hcut
  generalize hR : (if neg = true then -(dval t.data.toList : Int) else (dval t.data.toList : Int)) = R
  have HR := hid1 hR
  clear hR
  go_enter Tryz.func82, Tryz.ntmps82
  go_wp2_with (first
    | (go_at_call 80; refine (HC.out _).mono ?_; rintro e w' ⟨rfl, rfl⟩)
    | (go_at_call 97; refine (allDigits_raw t _ htm).mono ?_; rintro e w' ⟨rfl, rfl⟩)
    | (go_at_call 99; refine (magnitudeOf_raw t _ ht had).mono ?_; rintro e w3 ⟨a3, n3, c3, N3, rfl, hHD3, hv3, hn3, hg3⟩; have HV3 := hid1 hv3; clear hv3; obtain ⟨hp3, hq3, hr3⟩ := box_kept w.heap.size hg3 (by first | (simp; done) | (simp; omega) | omega))
    | (go_at_call 98; refine (made_own neg _ a3 n3 c3 N3 _ (by exact hHD3.ow (by omega))).mono ?_; rintro e w5 ⟨s5, a5, l5, rfl, ho5, hn5, hs5, hi5, hk5, ha5, hg5⟩; have HI5 := hid1 hi5; clear hi5; obtain ⟨hp5, hq5, hr5⟩ := box_kept w.heap.size hg5 (by first | (simp; done) | (simp; omega) | omega)))
  refine bodyPost_ret (v := .tuple #[.agg #[.bool s5, .slice a5 l5.length l5.length], .int .i64 0]) (by simp [results, Tryz.results82, go_sem, hp5, hr5, hq5, hp3, hq3]) rfl ?_
  exact parse_end (by repeat (first | exact gb_refl _ _ | apply gb_drew | apply gb_alloc | (refine gb_then ?_ (by assumption) (by simp)))) ho5 (g := w.heap.size) (by first | (simp; done) | (simp; omega) | omega) (Nat.le_refl _) (by first | (simp; done) | (simp; omega) | omega) hn5 hs5 (by rw [HI5.out, iv_dval neg HV3.out, HR.out]) (by omega) _ _

set_option maxHeartbeats 1600000 in
theorem parse_yes2 (s t : ByteArray) (neg : Bool) (w : World) (ht : t.size ≤ 1000000000000) (hcut : ∀ w, Calls Tryz.prog 80 #[.string s, .string ⟨#[126]⟩] w fun e w' => e = .returned (.tuple #[.string t, .bool neg]) ∧ w' = w)
    (hd : allDig t.data.toList = true) (h0 : 0 < t.size) (hz : ((t[0].toNat : Int) == 48) = true) (hs : (s.toList == [48]) = true) : Calls Tryz.prog 82 #[.string s] w (ParseYes w (if neg = true then -(dval t.data.toList : Int) else (dval t.data.toList : Int)) t.size) := by
  have HC := hid1 hcut
  have had : t.data.toList.all isDig = true := by
    unfold allDig at hd; exact (Bool.and_eq_true_iff.1 hd).1
  have htm : t.size ≤ maxLen := by unfold maxLen; omega
  clear hcut
  generalize hR : (if neg = true then -(dval t.data.toList : Int) else (dval t.data.toList : Int)) = R
  have HR := hid1 hR
  clear hR
  go_enter Tryz.func82, Tryz.ntmps82
  go_wp2_with (first
    | (go_at_call 80; refine (HC.out _).mono ?_; rintro e w' ⟨rfl, rfl⟩)
    | (go_at_call 97; refine (allDigits_raw t _ htm).mono ?_; rintro e w' ⟨rfl, rfl⟩)
    | (go_at_call 99; refine (magnitudeOf_raw t _ ht had).mono ?_; rintro e w3 ⟨a3, n3, c3, N3, rfl, hHD3, hv3, hn3, hg3⟩; have HV3 := hid1 hv3; clear hv3; obtain ⟨hp3, hq3, hr3⟩ := box_kept w.heap.size hg3 (by first | (simp; done) | (simp; omega) | omega))
    | (go_at_call 98; refine (made_own neg _ a3 n3 c3 N3 _ (by exact hHD3.ow (by omega))).mono ?_; rintro e w5 ⟨s5, a5, l5, rfl, ho5, hn5, hs5, hi5, hk5, ha5, hg5⟩; have HI5 := hid1 hi5; clear hi5; obtain ⟨hp5, hq5, hr5⟩ := box_kept w.heap.size hg5 (by first | (simp; done) | (simp; omega) | omega)))
  refine bodyPost_ret (v := .tuple #[.agg #[.bool s5, .slice a5 l5.length l5.length], .int .i64 0]) (by simp [results, Tryz.results82, go_sem, hp5, hr5, hq5, hp3, hq3]) rfl ?_
  exact parse_end (by repeat (first | exact gb_refl _ _ | apply gb_drew | apply gb_alloc | (refine gb_then ?_ (by assumption) (by simp)))) ho5 (g := w.heap.size) (by first | (simp; done) | (simp; omega) | omega) (Nat.le_refl _) (by first | (simp; done) | (simp; omega) | omega) hn5 hs5 (by rw [HI5.out, iv_dval neg HV3.out, HR.out]) (by omega) _ _
end Go.Proofs.YtcmhfeeocehlaaaGreatDoor
