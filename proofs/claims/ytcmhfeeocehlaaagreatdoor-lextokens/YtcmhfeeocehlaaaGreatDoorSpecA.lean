/-
  What the words of a text are: plain functions over its bytes, each as the program goes.
-/
import Derived.PlainAid
import Derived.Lib.Bytealg
import Derived.Lib.Strings
import Derived.Test.YtcmhfeeocehlaaaGreatDoorRB
import Derived.Lib.Walk
import Derived.Lib.UnsafeStr
import Derived.Lib.BufferWrite
import Derived.Laws.MakeOwn
namespace Go.Proofs.YtcmhfeeocehlaaaGreatDoor
set_option linter.unusedSimpArgs false
set_option linter.unusedVariables false
open Go.PlainAid

def isB (c : Int) : Bool := c == 32 || c == 9 || c == 10 || c == 13
def isL (c : Int) : Bool := (decide (65 ≤ c) && decide (c ≤ 90)) || (decide (97 ≤ c) && decide (c ≤ 122))
def isD (c : Int) : Bool := decide (48 ≤ c) && decide (c ≤ 57)
def isN (c : Int) : Bool := isL c || isD c || c == 95 || c == 39
def symL : List UInt8 := [33, 37, 38, 36, 35, 43, 45, 47, 58, 60, 61, 62, 63, 64, 92, 126, 96, 94, 124, 42]
def loneL : List UInt8 := [40, 41, 91, 93, 123, 125, 44, 59, 95]
def isS (c : Int) : Bool := decide (0 ≤ Lib.indexByte symL c.toNat.toUInt8)
def isO (c : Int) : Bool := decide (0 ≤ Lib.indexByte loneL c.toNat.toUInt8)
theorem isL_0 : isL 0 = false := rfl
theorem isD_0 : isD 0 = false := rfl
theorem isN_0 : isN 0 = false := rfl
theorem isS_0 : isS 0 = false := by decide

/-! ### a row of bytes of one kind -/
def runF (p : Int → Bool) (s : ByteArray) : Nat → Nat → Nat
  | 0, a => a
  | k + 1, a => if p (bt s a) = true then runF p s k (a + 1) else a
/-- the first place from a on whose byte is not of the kind -/
def run (p : Int → Bool) (s : ByteArray) (a : Nat) : Nat := runF p s (s.size - a) a
theorem run_end {p : Int → Bool} {s : ByteArray} {a : Nat} (h : s.size ≤ a) : run p s a = a := by
  unfold run; rw [Nat.sub_eq_zero_of_le h]; rfl
theorem run_no {p : Int → Bool} {s : ByteArray} {a : Nat} (h : p (bt s a) = false) : run p s a = a := by
  unfold run
  cases s.size - a with
  | zero => rfl
  | succ k => simp [runF, h]
theorem run_yes {p : Int → Bool} {s : ByteArray} {a : Nat} (h : a < s.size) (hp : p (bt s a) = true) : run p s a = run p s (a + 1) := by
  unfold run
  obtain ⟨k, hk⟩ : ∃ k, s.size - a = k + 1 := ⟨s.size - a - 1, by omega⟩
  rw [hk, show s.size - (a + 1) = k by omega]
  simp [runF, hp]
theorem runF_ge (p : Int → Bool) (s : ByteArray) : ∀ k a, a ≤ runF p s k a
  | 0, a => Nat.le_refl a
  | k + 1, a => by
    unfold runF
    split
    · have := runF_ge p s k (a + 1); omega
    · exact Nat.le_refl a
theorem runF_le (p : Int → Bool) (s : ByteArray) : ∀ k a, runF p s k a ≤ a + k
  | 0, a => Nat.le_refl a
  | k + 1, a => by
    unfold runF
    split
    · have := runF_le p s k (a + 1); omega
    · omega
theorem run_ge (p : Int → Bool) (s : ByteArray) (a : Nat) : a ≤ run p s a := runF_ge p s _ a
theorem run_le (p : Int → Bool) (s : ByteArray) (a : Nat) (h : a ≤ s.size) : run p s a ≤ s.size := by
  have := runF_le p s (s.size - a) a
  unfold run; omega
theorem lt_of_bt {s : ByteArray} {a : Nat} (h : bt s a ≠ 0) : a < s.size := by
  by_cases h1 : a < s.size
  · exact h1
  · exact absurd (bt_end s (by omega)) h
theorem lt_of_p {p : Int → Bool} {s : ByteArray} {a : Nat} (h0 : p 0 = false) (h : p (bt s a) = true) : a < s.size :=
  lt_of_bt (fun e => by rw [e, h0] at h; cases h)
theorem run_gt {p : Int → Bool} {s : ByteArray} {a : Nat} (h0 : p 0 = false) (h : p (bt s a) = true) : a < run p s a := by
  rw [run_yes (lt_of_p h0 h) h]
  exact run_ge p s (a + 1)

/-! ### blanks and remarks -/
def opens (s : ByteArray) (a : Nat) : Bool := bt s a == 40 && bt s (a + 1) == 42
def closes (s : ByteArray) (a : Nat) : Bool := bt s a == 42 && bt s (a + 1) == 41
theorem opens_lt {s : ByteArray} {a : Nat} (h : opens s a = true) : a + 2 ≤ s.size := by
  simp only [opens, Bool.and_eq_true, beq_iff_eq] at h
  exact lt_of_bt (a := a + 1) (by omega)
theorem closes_lt {s : ByteArray} {a : Nat} (h : closes s a = true) : a + 2 ≤ s.size := by
  simp only [closes, Bool.and_eq_true, beq_iff_eq] at h
  exact lt_of_bt (a := a + 1) (by omega)

def remF (s : ByteArray) : Nat → Nat → Nat → Option Nat
  | 0, _, _ => none
  | k + 1, a, d => if opens s a = true then remF s k (a + 2) (d + 1) else if closes s a = true then (if d ≤ 1 then some (a + 2) else remF s k (a + 2) (d - 1)) else if a < s.size then remF s k (a + 1) d else none
theorem remF_fuel (s : ByteArray) : ∀ k k' a d, s.size - a ≤ k → s.size - a ≤ k' → remF s k a d = remF s k' a d := by
  intro k
  induction k with
  | zero =>
    intro k' a d h _
    have hn : ¬ a < s.size := by omega
    cases k' with
    | zero => rfl
    | succ k' =>
      have h1 : ¬ opens s a = true := fun e => by have := opens_lt e; omega
      have h2 : ¬ closes s a = true := fun e => by have := closes_lt e; omega
      simp [remF, h1, h2, hn]
  | succ k ih =>
    intro k' a d h h'
    cases k' with
    | zero =>
      have hn : ¬ a < s.size := by omega
      have h1 : ¬ opens s a = true := fun e => by have := opens_lt e; omega
      have h2 : ¬ closes s a = true := fun e => by have := closes_lt e; omega
      simp [remF, h1, h2, hn]
    | succ k' =>
      unfold remF
      rw [ih k' (a + 2) (d + 1) (by omega) (by omega), ih k' (a + 2) (d - 1) (by omega) (by omega), ih k' (a + 1) d (by omega) (by omega)]
/-- the place behind a remark, from a on, d remarks deep -/
def rem (s : ByteArray) (a d : Nat) : Option Nat := remF s (s.size - a) a d
theorem rem_open {s : ByteArray} {a d : Nat} (h : opens s a = true) : rem s a d = rem s (a + 2) (d + 1) := by
  have := opens_lt h
  unfold rem
  obtain ⟨k, hk⟩ : ∃ k, s.size - a = k + 1 := ⟨s.size - a - 1, by omega⟩
  rw [hk]
  rw [show remF s (k + 1) a d = remF s k (a + 2) (d + 1) by simp [remF, h]]
  exact remF_fuel s _ _ _ _ (by omega) (Nat.le_refl _)
theorem rem_shut1 {s : ByteArray} {a d : Nat} (h0 : opens s a = false) (h : closes s a = true) (hd : d ≤ 1) : rem s a d = some (a + 2) := by
  have := closes_lt h
  unfold rem
  obtain ⟨k, hk⟩ : ∃ k, s.size - a = k + 1 := ⟨s.size - a - 1, by omega⟩
  rw [hk]
  simp [remF, h, h0, hd]
theorem rem_shut2 {s : ByteArray} {a d : Nat} (h0 : opens s a = false) (h : closes s a = true) (hd : ¬ d ≤ 1) : rem s a d = rem s (a + 2) (d - 1) := by
  have := closes_lt h
  unfold rem
  obtain ⟨k, hk⟩ : ∃ k, s.size - a = k + 1 := ⟨s.size - a - 1, by omega⟩
  rw [hk]
  rw [show remF s (k + 1) a d = remF s k (a + 2) (d - 1) by simp [remF, h0, h, hd]]
  exact remF_fuel s _ _ _ _ (by omega) (Nat.le_refl _)
theorem rem_skip {s : ByteArray} {a d : Nat} (h0 : opens s a = false) (h : closes s a = false) (ha : a < s.size) : rem s a d = rem s (a + 1) d := by
  unfold rem
  obtain ⟨k, hk⟩ : ∃ k, s.size - a = k + 1 := ⟨s.size - a - 1, by omega⟩
  rw [hk]
  rw [show remF s (k + 1) a d = remF s k (a + 1) d by simp [remF, h0, h, ha]]
  exact remF_fuel s _ _ _ _ (by omega) (Nat.le_refl _)
theorem rem_end {s : ByteArray} {a d : Nat} (h : s.size ≤ a) : rem s a d = none := by
  unfold rem; rw [Nat.sub_eq_zero_of_le h]; rfl
theorem remF_bound (s : ByteArray) : ∀ k a d b, remF s k a d = some b → a < b ∧ b ≤ s.size
  | 0, _, _, _, h => by cases h
  | k + 1, a, d, b, h => by
    unfold remF at h
    split at h
    · rename_i ho
      have := remF_bound s k _ _ _ h; omega
    · split at h
      · rename_i hc
        have := closes_lt hc
        split at h
        · cases h; omega
        · have := remF_bound s k _ _ _ h; omega
      · split at h
        · have := remF_bound s k _ _ _ h; omega
        · cases h
theorem rem_bound {s : ByteArray} {a d b : Nat} (h : rem s a d = some b) : a < b ∧ b ≤ s.size := remF_bound s _ _ _ _ h

def blF (s : ByteArray) : Nat → Nat → Option Nat
  | 0, a => some a
  | k + 1, a => if isB (bt s a) = true then blF s k (a + 1) else if opens s a = true then (match rem s a 0 with | none => none | some b => blF s k b) else some a
theorem isB_lt {s : ByteArray} {a : Nat} (h : isB (bt s a) = true) : a < s.size := lt_of_p (p := isB) rfl h
theorem blF_fuel (s : ByteArray) : ∀ k k' a, s.size - a ≤ k → s.size - a ≤ k' → blF s k a = blF s k' a := by
  intro k
  induction k with
  | zero =>
    intro k' a h _
    cases k' with
    | zero => rfl
    | succ k' =>
      have h1 : ¬ opens s a = true := fun e => by have := opens_lt e; omega
      have h2 : ¬ isB (bt s a) = true := fun e => by have := isB_lt e; omega
      simp [blF, h1, h2]
  | succ k ih =>
    intro k' a h h'
    cases k' with
    | zero =>
      have h1 : ¬ opens s a = true := fun e => by have := opens_lt e; omega
      have h2 : ¬ isB (bt s a) = true := fun e => by have := isB_lt e; omega
      simp [blF, h1, h2]
    | succ k' =>
      unfold blF
      rw [ih k' (a + 1) (by omega) (by omega)]
      cases hr : rem s a 0 with
      | none => rfl
      | some b =>
        dsimp only
        rw [ih k' b (by have := rem_bound hr; omega) (by have := rem_bound hr; omega)]
/-- the place behind blanks and remarks; none: a remark does not end -/
def bl (s : ByteArray) (a : Nat) : Option Nat := blF s (s.size - a) a
theorem bl_blank {s : ByteArray} {a : Nat} (h : isB (bt s a) = true) : bl s a = bl s (a + 1) := by
  have := isB_lt h
  unfold bl
  obtain ⟨k, hk⟩ : ∃ k, s.size - a = k + 1 := ⟨s.size - a - 1, by omega⟩
  rw [hk, show s.size - (a + 1) = k by omega]
  simp [blF, h]
theorem bl_none {s : ByteArray} {a : Nat} (h0 : isB (bt s a) = false) (h : opens s a = true) (hr : rem s a 0 = none) : bl s a = none := by
  have := opens_lt h
  unfold bl
  obtain ⟨k, hk⟩ : ∃ k, s.size - a = k + 1 := ⟨s.size - a - 1, by omega⟩
  rw [hk]
  simp [blF, h0, h, hr]
theorem bl_some {s : ByteArray} {a b : Nat} (h0 : isB (bt s a) = false) (h : opens s a = true) (hr : rem s a 0 = some b) : bl s a = bl s b := by
  have := opens_lt h
  have := rem_bound hr
  unfold bl
  obtain ⟨k, hk⟩ : ∃ k, s.size - a = k + 1 := ⟨s.size - a - 1, by omega⟩
  rw [hk, show blF s (k + 1) a = blF s k b by simp [blF, h0, h, hr]]
  exact blF_fuel s _ _ _ (by omega) (Nat.le_refl _)
theorem bl_other {s : ByteArray} {a : Nat} (h0 : isB (bt s a) = false) (h : opens s a = false) : bl s a = some a := by
  unfold bl
  cases s.size - a with
  | zero => rfl
  | succ k => simp [blF, h0, h]
theorem bl_end {s : ByteArray} {a : Nat} (h : s.size ≤ a) : bl s a = some a := by
  unfold bl; rw [Nat.sub_eq_zero_of_le h]; rfl
theorem blF_bound (s : ByteArray) : ∀ k a b, a ≤ s.size → blF s k a = some b → a ≤ b ∧ b ≤ s.size
  | 0, a, b, ha, h => by cases h; omega
  | k + 1, a, b, ha, h => by
    unfold blF at h
    split at h
    · rename_i hb
      have := isB_lt hb
      have := blF_bound s k _ _ (by omega) h; omega
    · split at h
      · split at h
        · cases h
        · rename_i c hr
          have := rem_bound hr
          have := blF_bound s k _ _ (by omega) h; omega
      · cases h; omega
theorem bl_bound {s : ByteArray} {a b : Nat} (ha : a ≤ s.size) (h : bl s a = some b) : a ≤ b ∧ b ≤ s.size := blF_bound s _ _ _ ha h

/-! ### words -/
/-- a word: its kind, its text, the number that it says, a real's bits, a character's byte, its place -/
structure Tk where
  kind : Int
  text : ByteArray
  z : Int
  bits : Int
  n : Int
  pl : Nat

/-- refused, or a word and the place behind it -/
inductive Wd where
  | bad (code : Int) (pl : Nat)
  | ok (t : Tk) (e : Nat)

def resL : List (List UInt8) := [[97, 110, 100], [97, 110, 100, 97, 108, 115, 111], [97, 115], [99, 97, 115, 101], [100, 97, 116, 97, 116, 121, 112, 101], [100, 111], [101, 108, 115, 101], [101, 110, 100], [101, 120, 99, 101, 112, 116, 105, 111, 110], [102, 110], [102, 117, 110], [104, 97, 110, 100, 108, 101],
  [105, 102], [105, 110], [105, 110, 102, 105, 120], [105, 110, 102, 105, 120, 114], [108, 101, 116], [110, 111, 110, 102, 105, 120], [111, 102], [111, 112], [111, 114, 101, 108, 115, 101], [114, 97, 105, 115, 101], [115, 105, 103], [115, 105, 103, 110, 97, 116, 117, 114, 101],
  [115, 116, 114, 117, 99, 116], [115, 116, 114, 117, 99, 116, 117, 114, 101], [116, 104, 101, 110], [116, 121, 112, 101], [118, 97, 108], [119, 104, 105, 108, 101],
  [45, 62], [61, 62], [58], [58, 62], [61], [124], [35], [40], [41], [91], [93], [123], [125], [44], [59], [95]]
/-- is it reserved? -/
def resv (l : List UInt8) : Bool := resL.contains l

def stands (k : Int) (s : ByteArray) (a e : Nat) : Wd := .ok ⟨k, s.extract a e, 0, 0, 0, a⟩ e
def limd (k : Int) (s : ByteArray) (a e most : Nat) : Wd := if most < e - a then .bad 32 a else stands k s a e

def nmF (s : ByteArray) : Nat → Nat → Nat ⊕ Nat
  | 0, e => .inr e
  | k + 1, e => if bt s e = 46 ∧ isL (bt s (e + 1)) = true then (if resv (s.extract (e + 1) (run isN s (e + 1))).data.toList = true then .inl (e + 1) else nmF s k (run isN s (e + 1))) else .inr e
/-- a long name's further parts: where one that is reserved begins, or the name's end -/
def nm (s : ByteArray) (e : Nat) : Nat ⊕ Nat := nmF s (s.size - e) e
def nameW (s : ByteArray) (a : Nat) : Wd :=
  if resv (s.extract a (run isN s a)).data.toList = true then stands 8 s a (run isN s a) else match nm s (run isN s a) with
    | .inl p => .bad 32 p
    | .inr e => limd 1 s a e 64
def tyL (s : ByteArray) (a : Nat) : Nat := if bt s (a + 1) = 39 then a + 2 else a + 1
def tyvW (s : ByteArray) (a : Nat) : Wd := if isL (bt s (tyL s a)) = true then limd 3 s a (run isN s (tyL s a)) 64 else .bad 30 a
def symW (s : ByteArray) (a : Nat) : Wd := if resv (s.extract a (run isS s a)).data.toList = true then stands 8 s a (run isS s a) else limd 2 s a (run isS s a) 64

def frac (s : ByteArray) (a : Nat) : Nat := if bt s a = 46 ∧ isD (bt s (a + 1)) = true then run isD s (a + 1) else a
def exD (s : ByteArray) (a : Nat) : Nat := if bt s (a + 1) = 126 then a + 2 else a + 1
def expo (s : ByteArray) (a : Nat) : Nat := if bt s a = 101 ∧ isD (bt s (exD s a)) = true then run isD s (exD s a) else a
def nuD (s : ByteArray) (a : Nat) : Nat := if bt s a = 126 then a + 1 else a
def whole (s : ByteArray) (a : Nat) : Nat := run isD s (nuD s a)
def numE (s : ByteArray) (a : Nat) : Nat := expo s (frac s (whole s a))
def dcv (l : List UInt8) : Nat := l.foldl (fun a c => a * 10 + (c.toNat - 48)) 0
def zof (l : List UInt8) : Int := match l with | 126 :: r => -(dcv r : Int) | l => (dcv l : Int)
def numW (rb : ByteArray → Int) (s : ByteArray) (a : Nat) : Wd :=
  if numE s a = whole s a then (if 2000 < numE s a - a then .bad 32 a else .ok ⟨4, s.extract a (numE s a), zof (s.extract a (numE s a)).data.toList, 0, 0, a⟩ (numE s a))
  else if 100 < numE s a - a then .bad 32 a else .ok ⟨5, s.extract a (numE s a), 0, rb (s.extract a (numE s a)), 0, a⟩ (numE s a)

def escB (s : ByteArray) (a : Nat) : Int × Nat :=
  if bt s (a + 1) = 110 then (10, 2) else if bt s (a + 1) = 116 then (9, 2) else if bt s (a + 1) = 92 ∨ bt s (a + 1) = 34 then (bt s (a + 1), 2)
  else if isD (bt s (a + 1)) = true ∧ isD (bt s (a + 2)) = true ∧ isD (bt s (a + 3)) = true then
    (if 255 < ((bt s (a + 1) - 48) * 10 + (bt s (a + 2) - 48)) * 10 + (bt s (a + 3) - 48) then (0, 0) else (((bt s (a + 1) - 48) * 10 + (bt s (a + 2) - 48)) * 10 + (bt s (a + 3) - 48), 4))
  else (0, 0)
inductive Qd where
  | bad (code : Int) (pl : Nat)
  | ok (l : List UInt8) (e : Nat)
def quF (s : ByteArray) : Nat → Nat → List UInt8 → Qd
  | 0, _, _ => .bad 31 s.size
  | k + 1, a, l => if bt s a = 34 then .ok l (a + 1)
    else if bt s a = 92 then (if (escB s a).2 = 0 then .bad 32 a else quF s k (a + (escB s a).2) (l ++ [(escB s a).1.toNat.toUInt8]))
    else if a < s.size then (if bt s a < 32 ∨ 126 < bt s a then .bad 32 a else quF s k (a + 1) (l ++ [(bt s a).toNat.toUInt8]))
    else .bad 31 s.size
/-- what stands between quotes, from a on, l having been read -/
def qu (s : ByteArray) (a : Nat) (l : List UInt8) : Qd := quF s (s.size - a) a l
def strOf (l : List UInt8) : ByteArray := ⟨l.toArray⟩
def textW (s : ByteArray) (a : Nat) : Wd := match qu s (a + 1) [] with
  | .bad c p => .bad c p
  | .ok l e => .ok ⟨7, strOf l, 0, 0, 0, a⟩ e
def charW (s : ByteArray) (a : Nat) : Wd := match qu s (a + 2) [] with
  | .bad c p => .bad c p
  | .ok l e => if l.length = 1 then .ok ⟨6, strOf l, 0, 0, ((l.getD 0 0).toNat : Int), a⟩ e else .bad 32 a

def isNum (s : ByteArray) (a : Nat) : Bool := isD (bt s a) || (bt s a == 126 && isD (bt s (a + 1)))
def wordW (rb : ByteArray → Int) (s : ByteArray) (a : Nat) : Wd :=
  if isL (bt s a) = true then nameW s a else if isNum s a = true then numW rb s a else if bt s a = 34 then textW s a else if bt s a = 35 ∧ bt s (a + 1) = 34 then charW s a
  else if bt s a = 39 then tyvW s a else if isO (bt s a) = true then stands 8 s a (a + 1) else if isS (bt s a) = true then symW s a else .bad 30 a

/-- refused, or all words -/
inductive Ls where
  | bad (code : Int) (pl : Nat)
  | ok (l : List Tk)
def allF (rb : ByteArray → Int) (s : ByteArray) : Nat → Nat → List Tk → Ls
  | 0, _, l => .ok l
  | k + 1, e, l => match bl s e with
    | none => .bad 31 s.size
    | some a => if a = s.size then .ok l else match wordW rb s a with
      | .bad c p => .bad c p
      | .ok t e' => allF rb s k e' (l ++ [t])
def lexW (rb : ByteArray → Int) (s : ByteArray) : Ls := if 65536 < s.size then .bad 2 0 else allF rb s (s.size + 1) 0 []
/-- the text that awake reads -/
def awT : ByteArray := ⟨#[118, 97, 108, 32, 65, 46, 120, 39, 32, 61, 32, 126, 49, 50, 32, 40, 42, 32, 97, 32, 42, 41, 32, 35, 34, 98, 34]⟩
def kindsOf : Ls → List (Int × List UInt8 × Int × Int × Nat)
  | .bad _ _ => []
  | .ok l => l.map fun t => (t.kind, t.text.data.toList, t.z, t.n, t.pl)
set_option maxRecDepth 100000 in
theorem aw_kinds (rb : ByteArray → Int) : kindsOf (lexW rb awT) = [(8, [118, 97, 108], 0, 0, 0), (1, [65, 46, 120, 39], 0, 0, 4), (8, [61], 0, 0, 9), (4, [126, 49, 50], -12, 0, 11), (6, [98], 0, 98, 23)] := by rfl
end Go.Proofs.YtcmhfeeocehlaaaGreatDoor
namespace Go.Proofs.YtcmhfeeocehlaaaGreatDoor
set_option linter.unusedSimpArgs false
set_option linter.unusedVariables false
open Go.RowKit Go.PlainAid
attribute [local go_sem ↓] Go.wp_at_zero Go.wp_at_succ

/-- answers a byte's kind, the world as it was -/
def Says (f : Nat) (p : Int → Bool) : Prop := ∀ (c : Int) (w : World), 0 ≤ c → c ≤ 255 → Calls Tryz.prog f #[.int .u8 c] w fun e w' => e = .returned (.bool (p c)) ∧ w' = w

set_option maxHeartbeats 1000000 in
theorem blank_raw : Says 22 isB := by
  intro c w h0 h1
  go_enter Tryz.func22, Tryz.ntmps22
  go_wp2
  all_goals (go_ret; exact ⟨ret_bool (by simp [isB, *]), rfl⟩)
set_option maxHeartbeats 1000000 in
theorem letter_raw : Says 26 isL := by
  intro c w h0 h1
  go_enter Tryz.func26, Tryz.ntmps26
  go_wp2
  all_goals (go_ret; exact ⟨ret_bool (by rw [Bool.eq_iff_iff]; simp [isL]; omega), rfl⟩)
set_option maxHeartbeats 1000000 in
theorem digit_raw : Says 28 isD := by
  intro c w h0 h1
  go_enter Tryz.func28, Tryz.ntmps28
  go_wp2
  all_goals (go_ret; exact ⟨ret_bool (by rw [Bool.eq_iff_iff]; simp [isD]; omega), rfl⟩)

set_option maxHeartbeats 1000000 in
theorem namePart_raw : Says 54 isN := by
  intro c w h0 h1
  go_enter Tryz.func54, Tryz.ntmps54
  go_wp2_with (first
    | (go_at_call 26; refine (letter_raw c _ h0 h1).mono ?_; rintro e w' ⟨rfl, rfl⟩)
    | (go_at_call 28; refine (digit_raw c _ h0 h1).mono ?_; rintro e w' ⟨rfl, rfl⟩))
  all_goals (go_ret; exact ⟨ret_bool (by simp [isN, *]), rfl⟩)

set_option maxHeartbeats 1000000 in
set_option maxRecDepth 100000 in
theorem sIndexByte (s : ByteArray) (c : Int) (w : World) :
    Calls Tryz.prog 61 #[.string s, .int .u8 c] w fun e w' => e = .returned (.int .i64 (Lib.indexByte s.data.toList c.toNat.toUInt8)) ∧ w' = w := by
  go_enter Tryz.func61, Tryz.ntmps61
  go_wp2
  rw [run_callFunc_extern Tryz.func85 (by kernel_rfl) (by kernel_rfl) (by kernel_rfl) (e := Extern.BytealgIndexByte.indexByte) (by kernel_rfl), Lib.run_indexByteString]
  simp only [Result.andThen]
  rw [Oper.upon_value]
  go_wp2
  go_ret
  exact ⟨rfl, rfl⟩
set_option maxHeartbeats 1000000 in
theorem symbol_raw : Says 35 isS := by
  intro c w h0 h1
  go_enter Tryz.func35, Tryz.ntmps35
  go_wp2_with (go_at_call 61; refine (sIndexByte _ _ _).mono ?_; rintro e w' ⟨rfl, rfl⟩)
  go_ret
  exact ⟨rfl, rfl⟩
set_option maxHeartbeats 1000000 in
theorem lone_raw : Says 33 isO := by
  intro c w h0 h1
  go_enter Tryz.func33, Tryz.ntmps33
  go_wp2_with (go_at_call 61; refine (sIndexByte _ _ _).mono ?_; rintro e w' ⟨rfl, rfl⟩)
  go_ret
  exact ⟨rfl, rfl⟩
set_option maxHeartbeats 1000000 in
theorem byteAt_raw (s : ByteArray) (a : Nat) (w : World) (hs : s.size ≤ 9223372036854775807) : Calls Tryz.prog 25 #[.string s, .int .i64 (a : Int)] w fun e w' => e = .returned (.int .u8 (bt s a)) ∧ w' = w := by
  have hb := get_bt s
  go_enter Tryz.func25, Tryz.ntmps25
  go_wp2
  · go_ret
    exact ⟨ret_int (bt_end s (by omega)).symm, rfl⟩
  · go_ret
    exact ⟨rfl, rfl⟩

set_option maxHeartbeats 1000000 in
set_option maxRecDepth 100000 in
theorem behind_digits (s : ByteArray) (a : Nat) (w : World) (hs : s.size ≤ 9223372036854775806) (ha : a ≤ s.size) :
    Calls Tryz.prog 53 #[.string s, .int .i64 (a : Int), .func (.func 28) #[] #[]] w fun e w' => e = .returned (.int .i64 (run isD s a : Int)) ∧ w' = w := by
  have hb := get_bt s
  go_enter Tryz.func53, Tryz.ntmps53
  go_wp2_with fail
  go_loop [1] (fun i => ∃ k : Nat, k ≤ s.size ∧ i = .int .i64 (k : Int) ∧ Hid (run isD s k = run isD s a)) (fun i => s.size - (intOf i).toNat)
  case atStart => exact ⟨a, ha, rfl, hid rfl⟩
  case round =>
    obtain ⟨k, hk, rfl, HP⟩ := hrel
    by_cases hlt : k < s.size
    · by_cases hp : isD (bt s k) = true
      · have HY := hid (run_yes hlt hp)
        go_wp2_with (go_at_call 28; refine (digit_raw _ _ (bt_nonneg s k) (bt_le s k)).mono ?_; rintro e w' ⟨rfl, rfl⟩)
        go_round
        · exact ⟨k + 1, by omega, rfl, hid (HY.out.symm.trans HP.out)⟩
        · simp [intOf]; omega
      · have HY := hid (run_no (p := isD) (s := s) (a := k) (by simpa using hp))
        go_wp2_with (go_at_call 28; refine (digit_raw _ _ (bt_nonneg s k) (bt_le s k)).mono ?_; rintro e w' ⟨rfl, rfl⟩)
        go_ret
        exact ⟨ret_int (by rw [← HP.out, HY.out]), rfl⟩
    · have HY := hid (run_end (p := isD) (s := s) (a := k) (by omega))
      go_wp2_with fail
      go_ret
      exact ⟨ret_int (by rw [← HP.out, HY.out]), rfl⟩
set_option maxHeartbeats 1000000 in
set_option maxRecDepth 100000 in
theorem behind_names (s : ByteArray) (a : Nat) (w : World) (hs : s.size ≤ 9223372036854775806) (ha : a ≤ s.size) :
    Calls Tryz.prog 53 #[.string s, .int .i64 (a : Int), .func (.func 54) #[] #[]] w fun e w' => e = .returned (.int .i64 (run isN s a : Int)) ∧ w' = w := by
  have hb := get_bt s
  go_enter Tryz.func53, Tryz.ntmps53
  go_wp2_with fail
  go_loop [1] (fun i => ∃ k : Nat, k ≤ s.size ∧ i = .int .i64 (k : Int) ∧ Hid (run isN s k = run isN s a)) (fun i => s.size - (intOf i).toNat)
  case atStart => exact ⟨a, ha, rfl, hid rfl⟩
  case round =>
    obtain ⟨k, hk, rfl, HP⟩ := hrel
    by_cases hlt : k < s.size
    · by_cases hp : isN (bt s k) = true
      · have HY := hid (run_yes hlt hp)
        go_wp2_with (go_at_call 54; refine (namePart_raw _ _ (bt_nonneg s k) (bt_le s k)).mono ?_; rintro e w' ⟨rfl, rfl⟩)
        go_round
        · exact ⟨k + 1, by omega, rfl, hid (HY.out.symm.trans HP.out)⟩
        · simp [intOf]; omega
      · have HY := hid (run_no (p := isN) (s := s) (a := k) (by simpa using hp))
        go_wp2_with (go_at_call 54; refine (namePart_raw _ _ (bt_nonneg s k) (bt_le s k)).mono ?_; rintro e w' ⟨rfl, rfl⟩)
        go_ret
        exact ⟨ret_int (by rw [← HP.out, HY.out]), rfl⟩
    · have HY := hid (run_end (p := isN) (s := s) (a := k) (by omega))
      go_wp2_with fail
      go_ret
      exact ⟨ret_int (by rw [← HP.out, HY.out]), rfl⟩
set_option maxHeartbeats 1000000 in
set_option maxRecDepth 100000 in
theorem behind_symbols (s : ByteArray) (a : Nat) (w : World) (hs : s.size ≤ 9223372036854775806) (ha : a ≤ s.size) :
    Calls Tryz.prog 53 #[.string s, .int .i64 (a : Int), .func (.func 35) #[] #[]] w fun e w' => e = .returned (.int .i64 (run isS s a : Int)) ∧ w' = w := by
  have hb := get_bt s
  go_enter Tryz.func53, Tryz.ntmps53
  go_wp2_with fail
  go_loop [1] (fun i => ∃ k : Nat, k ≤ s.size ∧ i = .int .i64 (k : Int) ∧ Hid (run isS s k = run isS s a)) (fun i => s.size - (intOf i).toNat)
  case atStart => exact ⟨a, ha, rfl, hid rfl⟩
  case round =>
    obtain ⟨k, hk, rfl, HP⟩ := hrel
    by_cases hlt : k < s.size
    · by_cases hp : isS (bt s k) = true
      · have HY := hid (run_yes hlt hp)
        go_wp2_with (go_at_call 35; refine (symbol_raw _ _ (bt_nonneg s k) (bt_le s k)).mono ?_; rintro e w' ⟨rfl, rfl⟩)
        go_round
        · exact ⟨k + 1, by omega, rfl, hid (HY.out.symm.trans HP.out)⟩
        · simp [intOf]; omega
      · have HY := hid (run_no (p := isS) (s := s) (a := k) (by simpa using hp))
        go_wp2_with (go_at_call 35; refine (symbol_raw _ _ (bt_nonneg s k) (bt_le s k)).mono ?_; rintro e w' ⟨rfl, rfl⟩)
        go_ret
        exact ⟨ret_int (by rw [← HP.out, HY.out]), rfl⟩
    · have HY := hid (run_end (p := isS) (s := s) (a := k) (by omega))
      go_wp2_with fail
      go_ret
      exact ⟨ret_int (by rw [← HP.out, HY.out]), rfl⟩
end Go.Proofs.YtcmhfeeocehlaaaGreatDoor
namespace Go.Proofs.YtcmhfeeocehlaaaGreatDoor
set_option linter.unusedSimpArgs false
set_option linter.unusedVariables false
open Go.RowKit Go.PlainAid
attribute [local go_sem ↓] Go.wp_at_zero Go.wp_at_succ

theorem bt_list (s : ByteArray) (k : Nat) : bt s k = ((s.data.toList.getD k 0).toNat : Int) := by
  unfold bt
  split
  · rename_i h
    have hl : k < s.data.toList.length := by simpa using h
    rw [List.getD_eq_getElem?_getD, List.getElem?_eq_getElem hl]
    rfl
  · rename_i h
    have hl : s.data.toList.length ≤ k := by simpa using h
    rw [List.getD_eq_getElem?_getD, List.getElem?_eq_none hl]
    rfl
theorem ext_list (s : ByteArray) (a b : Nat) : (s.extract a b).data.toList = (s.data.toList.take b).drop a := by
  rw [ByteArray.data_extract]
  simp [List.drop_take]
theorem ext_rest (s : ByteArray) (a : Nat) : (s.extract a s.size).data.toList = s.data.toList.drop a := by
  rw [ext_list, List.take_of_length_le (by simp)]
theorem getD_drop (l : List UInt8) (a k : Nat) : (l.drop a).getD k 0 = l.getD (a + k) 0 := by
  simp [List.getD_eq_getElem?_getD]
theorem toNat_eq {c : UInt8} {n : Nat} (hn : n < 256) : ((c.toNat : Int) = (n : Int)) ↔ c = UInt8.ofNat n := by
  constructor
  · intro h
    apply UInt8.toNat_inj.1
    rw [UInt8.toNat_ofNat']
    omega
  · intro h
    rw [h, UInt8.toNat_ofNat']
    omega
theorem pre2_list (l : List UInt8) (x y : Nat) (hx : 0 < x) (hx' : x < 256) (hy : 0 < y) (hy' : y < 256) :
    (decide (2 ≤ l.length) && (l.take 2 == [UInt8.ofNat x, UInt8.ofNat y])) = ((((l.getD 0 0).toNat : Int) == (x : Int)) && (((l.getD 1 0).toNat : Int) == (y : Int))) := by
  match l with
  | [] => simp; omega
  | [c] => simp; omega
  | c :: d :: r =>
    rw [Bool.eq_iff_iff]
    simp only [List.length_cons, List.take_succ_cons, List.take_zero, Bool.and_eq_true, beq_iff_eq, List.getD_cons_zero, List.getD_cons_succ, toNat_eq hx', toNat_eq hy', List.cons.injEq, and_true, decide_eq_true_iff]
    exact ⟨fun h => h.2, fun h => ⟨by omega, h⟩⟩

set_option maxHeartbeats 1000000 in
theorem hasPrefix2 (s t : ByteArray) (x y : Nat) (w : World) (hx : 0 < x) (hx' : x < 256) (hy : 0 < y) (hy' : y < 256) (ht : t = ⟨#[UInt8.ofNat x, UInt8.ofNat y]⟩) (hs : s.size ≤ 9223372036854775807) :
    Calls Tryz.prog 52 #[.string s, .string t] w fun e w' => e = .returned (.bool (bt s 0 == (x : Int) && bt s 1 == (y : Int))) ∧ w' = w := by
  have hl := pre2_list s.data.toList x y hx hx' hy hy'
  rw [← bt_list, ← bt_list] at hl
  have h2 : t.size = 2 := by rw [ht]; rfl
  have h3 : t.toList = [UInt8.ofNat x, UInt8.ofNat y] := by rw [ht, Lib.toList_data]
  obtain ⟨b, hb⟩ : ∃ b, (bt s 0 == (x : Int) && bt s 1 == (y : Int)) = b := ⟨_, rfl⟩
  rw [hb] at hl ⊢
  have HL := hid hl
  have HT := hid h3
  clear hl ht h3 hb
  go_enter Tryz.func52, Tryz.ntmps52
  go_wp2
  · have h : (2 : Int) ≤ s.size := by assumption
    go_ret
    refine ⟨ret_bool ?_, rfl⟩
    rw [← HL.out, HT.out, Lib.toList_data, ext_list, List.drop_zero, show decide (2 ≤ s.data.toList.length) = true by simp; omega, Bool.true_and]
  · have h : (s.size : Int) < 2 := by assumption
    go_ret
    refine ⟨ret_bool ?_, rfl⟩
    rw [← HL.out, show decide (2 ≤ s.data.toList.length) = false by simp; omega, Bool.false_and]

theorem bt_ext (s : ByteArray) (a k : Nat) : bt (s.extract a s.size) k = bt s (a + k) := by
  rw [bt_list, bt_list, ext_rest, getD_drop]
theorem ext_size (s : ByteArray) (a : Nat) : (s.extract a s.size).size = s.size - a := by
  rw [Lib.size_eq, ext_rest, List.length_drop, ← Lib.size_eq]

set_option maxHeartbeats 1000000 in
theorem opens_raw (s : ByteArray) (a : Nat) (w : World) (hs : s.size ≤ 9223372036854775807) (ha : a ≤ s.size) :
    Calls Tryz.prog 23 #[.string s, .int .i64 (a : Int)] w fun e w' => e = .returned (.bool (opens s a)) ∧ w' = w := by
  have hz := ext_size s a
  have h0 := bt_ext s a 0
  have h1 := bt_ext s a 1
  have hp := fun w => hasPrefix2 (s.extract a s.size) ⟨#[40, 42]⟩ 40 42 w (by decide) (by decide) (by decide) (by decide) rfl (by omega)
  rw [h0, h1] at hp
  have HP := hid hp
  clear hp h0 h1 hz
  go_enter Tryz.func23, Tryz.ntmps23
  go_wp2_with (go_at_call 52; refine (HP.out _).mono ?_; rintro e w' ⟨rfl, rfl⟩)
  go_ret
  exact ⟨rfl, rfl⟩

/-- what is answered of a place that may not be there -/
def optRes (o : Option Nat) : Value := match o with | none => .tuple #[.int .i64 0, .bool false] | some b => .tuple #[.int .i64 (b : Int), .bool true]

set_option maxHeartbeats 1000000 in
set_option maxRecDepth 100000 in
theorem remark_raw (s : ByteArray) (a : Nat) (w : World) (hs : s.size ≤ 9223372036854775800) (ho : opens s a = true) :
    Calls Tryz.prog 24 #[.string s, .int .i64 (a : Int)] w fun e w' => e = .returned (optRes (rem s a 0)) ∧ w' = w := by
  have hal := opens_lt ho
  have HO := hid ho
  clear ho
  obtain ⟨R, hR⟩ : ∃ R, rem s a 0 = R := ⟨_, rfl⟩
  rw [hR]
  have HR := hid hR
  clear hR
  go_enter Tryz.func24, Tryz.ntmps24
  go_wp2_with fail
  go_loop [1, 6] (fun i dp => ∃ k d : Nat, k ≤ s.size ∧ d ≤ k ∧ i = .int .i64 (k : Int) ∧ dp = .int .i64 (d : Int) ∧ Hid (rem s k d = R) ∧ (d = 0 → k = a)) (fun i _ => s.size - (intOf i).toNat)
  case atStart => exact ⟨a, 0, by omega, by omega, rfl, rfl, HR, fun _ => rfl⟩
  case round =>
    obtain ⟨k, d, hk, hd, rfl, rfl, HP, h0⟩ := hrel
    by_cases hlt : k < s.size
    · have hko := fun w => opens_raw s k w (by omega) hk
      have hz := ext_size s k
      have hp := fun w => hasPrefix2 (s.extract k s.size) ⟨#[42, 41]⟩ 42 41 w (by decide) (by decide) (by decide) (by decide) rfl (by omega)
      rw [bt_ext s k 0, bt_ext s k 1] at hp
      have hp' : ∀ w, Calls Tryz.prog 52 #[.string (s.extract k s.size), .string ⟨#[42, 41]⟩] w fun e w' => e = .returned (.bool (closes s k)) ∧ w' = w := hp
      clear hp hz
      cases ho : opens s k with
      | true =>
        have HT := hid (rem_open (d := d) ho)
        have hl := opens_lt ho
        rw [ho] at hko
        have HK := hid hko
        clear hko ho hp' h0
        go_wp2_with (go_at_call 23; refine (HK.out _).mono ?_; rintro e w' ⟨rfl, rfl⟩)
        refine ⟨⟨k + 2, d + 1, hl, by omega, rfl, rfl, hid (HT.out.symm.trans HP.out), fun h => by omega⟩, ?_⟩
        simp [intOf]; omega
      | false =>
        have hd1 : 1 ≤ d := by
          rcases Nat.eq_zero_or_pos d with h | h
          · rw [h0 h, HO.out] at ho; cases ho
          · exact h
        rw [ho] at hko
        have HK := hid hko
        cases hc : closes s k with
        | true =>
          have hl := closes_lt hc
          rw [hc] at hp'
          have HC := hid hp'
          by_cases h1 : d ≤ 1
          · obtain rfl : d = 1 := by omega
            have HT := hid (rem_shut1 ho hc h1)
            clear hko ho hp' h0 hc
            go_wp2_with (first
              | (go_at_call 23; refine (HK.out _).mono ?_; rintro e w' ⟨rfl, rfl⟩)
              | (go_at_call 52; refine (HC.out _).mono ?_; rintro e w' ⟨rfl, rfl⟩))
            go_ret2
            exact ⟨by rw [← HP.out, HT.out]; rfl, rfl⟩
          · obtain ⟨d', rfl⟩ : ∃ d', d = d' + 2 := ⟨d - 2, by omega⟩
            have HT := hid (rem_shut2 ho hc h1)
            clear hko ho hp' h0 hc
            go_wp2_with (first
              | (go_at_call 23; refine (HK.out _).mono ?_; rintro e w' ⟨rfl, rfl⟩)
              | (go_at_call 52; refine (HC.out _).mono ?_; rintro e w' ⟨rfl, rfl⟩))
            refine ⟨⟨k + 2, d' + 1, hl, by omega, rfl, by simp; omega, hid (HT.out.symm.trans HP.out), fun h => by omega⟩, ?_⟩
            simp [intOf]; omega
        | false =>
          rw [hc] at hp'
          have HC := hid hp'
          have HT := hid (rem_skip (d := d) ho hc hlt)
          obtain ⟨d', rfl⟩ : ∃ d', d = d' + 1 := ⟨d - 1, by omega⟩
          clear hko ho hp' h0 hc
          go_wp2_with (first
            | (go_at_call 23; refine (HK.out _).mono ?_; rintro e w' ⟨rfl, rfl⟩)
            | (go_at_call 52; refine (HC.out _).mono ?_; rintro e w' ⟨rfl, rfl⟩))
          refine ⟨⟨k + 1, d' + 1, by omega, by omega, rfl, rfl, hid (HT.out.symm.trans HP.out), fun h => by omega⟩, ?_⟩
          simp [intOf]; omega
    · have HT := hid (rem_end (s := s) (a := k) (d := d) (by omega))
      go_wp2_with fail
      go_ret2
      exact ⟨by rw [← HP.out, HT.out]; rfl, rfl⟩

set_option maxHeartbeats 1000000 in
set_option maxRecDepth 100000 in
theorem blanks_raw (s : ByteArray) (a : Nat) (w : World) (hs : s.size ≤ 9223372036854775800) (ha : a ≤ s.size) :
    Calls Tryz.prog 14 #[.string s, .int .i64 (a : Int)] w fun e w' => e = .returned (optRes (bl s a)) ∧ w' = w := by
  have hb := get_bt s
  obtain ⟨R, hR⟩ : ∃ R, bl s a = R := ⟨_, rfl⟩
  rw [hR]
  have HR := hid hR
  clear hR
  go_enter Tryz.func14, Tryz.ntmps14
  go_wp2_with fail
  go_loop [1] (fun i => ∃ k : Nat, k ≤ s.size ∧ i = .int .i64 (k : Int) ∧ Hid (bl s k = R)) (fun i => s.size - (intOf i).toNat)
  case atStart => exact ⟨a, ha, rfl, HR⟩
  case round =>
    obtain ⟨k, hk, rfl, HP⟩ := hrel
    by_cases hlt : k < s.size
    · have hkb := fun w => blank_raw (bt s k) w (bt_nonneg s k) (bt_le s k)
      have hko := fun w => opens_raw s k w (by omega) hk
      cases h0 : isB (bt s k) with
      | true =>
        rw [h0] at hkb
        have HB := hid hkb
        have HT := hid (bl_blank h0)
        clear hkb hko h0
        go_wp2_with (go_at_call 22; refine (HB.out _).mono ?_; rintro e w' ⟨rfl, rfl⟩)
        refine ⟨⟨k + 1, by omega, rfl, hid (HT.out.symm.trans HP.out)⟩, ?_⟩
        simp [intOf]; omega
      | false =>
        rw [h0] at hkb
        have HB := hid hkb
        cases ho : opens s k with
        | false =>
          rw [ho] at hko
          have HK := hid hko
          have HT := hid (bl_other h0 ho)
          clear hkb hko h0 ho
          go_wp2_with (first
            | (go_at_call 22; refine (HB.out _).mono ?_; rintro e w' ⟨rfl, rfl⟩)
            | (go_at_call 23; refine (HK.out _).mono ?_; rintro e w' ⟨rfl, rfl⟩))
          go_ret2
          exact ⟨by rw [← HP.out, HT.out]; rfl, rfl⟩
        | true =>
          have hrr := fun w => remark_raw s k w hs ho
          rw [ho] at hko
          have HK := hid hko
          cases hr : rem s k 0 with
          | none =>
            have HT := hid (bl_none h0 ho hr)
            rw [hr] at hrr
            have HM := hid hrr
            clear hkb hko h0 ho hr hrr
            go_wp2_with (first
              | (go_at_call 22; refine (HB.out _).mono ?_; rintro e w' ⟨rfl, rfl⟩)
              | (go_at_call 23; refine (HK.out _).mono ?_; rintro e w' ⟨rfl, rfl⟩)
              | (go_at_call 24; refine (HM.out _).mono ?_; rintro e w' ⟨rfl, rfl⟩; simp only [optRes]))
            go_ret2
            exact ⟨by rw [← HP.out, HT.out]; rfl, rfl⟩
          | some b =>
            have HT := hid (bl_some h0 ho hr)
            have hbb := rem_bound hr
            rw [hr] at hrr
            have HM := hid hrr
            clear hkb hko h0 ho hr hrr
            go_wp2_with (first
              | (go_at_call 22; refine (HB.out _).mono ?_; rintro e w' ⟨rfl, rfl⟩)
              | (go_at_call 23; refine (HK.out _).mono ?_; rintro e w' ⟨rfl, rfl⟩)
              | (go_at_call 24; refine (HM.out _).mono ?_; rintro e w' ⟨rfl, rfl⟩; simp only [optRes]))
            refine ⟨⟨b, hbb.2, rfl, hid (HT.out.symm.trans HP.out)⟩, ?_⟩
            simp [intOf]; omega
    · have HT := hid (bl_end (s := s) (a := k) (by omega))
      go_wp2_with fail
      go_ret2
      exact ⟨by rw [← HP.out, HT.out]; rfl, rfl⟩
end Go.Proofs.YtcmhfeeocehlaaaGreatDoor
namespace Go.Proofs.YtcmhfeeocehlaaaGreatDoor
set_option linter.unusedSimpArgs false
set_option linter.unusedVariables false
open Go.RowKit Go.PlainAid
attribute [local go_sem ↓] Go.wp_at_zero Go.wp_at_succ

theorem Tn.of_below {a b : World} (h : Below a.heap.size a b) : Tn No a b := ⟨h.os, h.tape, h.output, h.size, fun k hk _ => h.block k hk⟩
theorem empty_of_size {s : ByteArray} (h : s.size = 0) : s = ⟨#[]⟩ := ByteArray.ext (Array.eq_empty_of_size_eq_zero h)

set_option maxHeartbeats 2000000 in
set_option maxRecDepth 100000 in
theorem sclone_raw (s : ByteArray) (w : World) (hs : s.size ≤ 281474976710656) : Calls Tryz.prog 76 #[.string s] w fun e w' => e = .returned (.string s) ∧ Tn No w w' := by
  by_cases h0 : s.size = 0
  · rw [empty_of_size h0]
    go_enter Tryz.func76, Tryz.ntmps76
    go_wp2
    go_ret
    exact ⟨rfl, Tn.refl _ _⟩
  · obtain ⟨i, hi, z0, z1, z2⟩ := info_parts u8_info
    obtain ⟨M, hM⟩ : ∃ M, madeCells (Value.int .u8 0).cells (((s.size : Nat) : Int).toNat * i.size) = M := ⟨_, rfl⟩
    have hMs : M.size = s.size := by rw [← hM, size_madeCells, z1]; simp
    have hmk : ∀ W : World, (Instr.makeSlice 80 (.int .i64 (s.size : Int)) (.int .i64 (s.size : Int))).run Tryz.prog W = .ok (.slice (some ⟨W.heap.size, 0, none⟩) s.size s.size) (W.alloc (.cells M 5)) := fun W => by
      have h := run_make (P := Tryz.prog) W 80 5 i (.int .u8 0) Tryz.underlying80 hi z0 .i64 .i64 (s.size : Int) (s.size : Int) (by omega) (by omega) (by rw [z2]; omega) (by omega)
      rw [hM] at h
      simpa using h
    have hg0 := heap_alloc_new w (.cells M 5)
    have hcp := Lib.run_copy_row_string (P := Tryz.prog) (w.alloc (.cells M 5)) 80 9 3 5 w.heap.size 0 s.size s.size s M 5 Tryz.underlying80 (by rw [hi]; simp [z1]) hg0 (Nat.le_refl _) (by omega)
    obtain ⟨Y, hY⟩ : ∃ Y, (M.toList.take 0 ++ Lib.byteCells s.data.toList ++ M.toList.drop (0 + s.size)).toArray = Y := ⟨_, rfl⟩
    rw [hY] at hcp
    have hYl : Y.toList = Lib.byteCells s.data.toList := by
      rw [← hY, List.take_zero, List.nil_append, List.drop_of_length_le (by rw [Array.length_toList]; omega), List.append_nil]
    have hYs : Y.size = s.size := by rw [← Array.length_toList, hYl, Lib.byteCells_length, ← Lib.size_eq]
    have hgY : ((w.alloc (.cells M 5)).setRow w.heap.size Y).heap[w.heap.size]? = some (.cells Y 5 (0, 0)) := setRow_heap _ _ M _ 5 (0, 0) hg0
    have hUS := Lib.run_unsafeString_row (P := Tryz.prog) ((w.alloc (.cells M 5)).setRow w.heap.size Y) 94 3 9 5 Tryz.underlying94 (by simp [Program.cellsOf, hi, z1]) w.heap.size Y.size (by unfold World.shape?; rw [hgY]) s.data.toList
      (fun e => h0 (by rw [Lib.size_eq, e]; rfl)) (by rw [← Lib.size_eq]; omega) (by rw [← Lib.size_eq]; omega)
      (fun j x hx => Lib.cells_of_row hgY Y.size j _ (by rw [List.take_of_length_le (by rw [Array.length_toList]; exact Nat.le_refl _), hYl]; simp [Lib.byteCells, hx]))
    rw [← Lib.size_eq] at hUS
    clear hY hM hg0
    go_enter Tryz.func76, Tryz.ntmps76
    go_wp2
    go_ret
    refine ⟨rfl, Tn.of_below (Lib.below_freeze (p := ⟨w.heap.size, 0, none⟩) ?_ (Nat.le_refl _) _)⟩
    exact ((Below.refl _ w).alloc (Nat.le_refl _) _).trans ⟨rfl, rfl, rfl, by simp, fun k hk => setRow_other _ _ _ _ (by omega)⟩
set_option maxHeartbeats 1000000 in
theorem clone_str (s : ByteArray) (w : World) (hs : s.size ≤ 281474976710656) : Calls Tryz.prog 62 #[.string s] w fun e w' => e = .returned (.string s) ∧ Tn No w w' := by
  go_enter Tryz.func62, Tryz.ntmps62
  go_wp2_with (go_at_call 76; refine (sclone_raw s _ hs).mono ?_; rintro e w1 ⟨rfl, ht⟩)
  go_ret
  exact ⟨rfl, ht⟩
end Go.Proofs.YtcmhfeeocehlaaaGreatDoor
