/-
  What the words of a text are: plain functions over its bytes, each as the program goes.
-/
import Derived.PlainAid
import Derived.Lib.Bytealg
import Derived.Lib.Strings
namespace Go.Proofs.YtcmhfeeocehlaaaGreatDoor
set_option linter.unusedSimpArgs false
set_option linter.unusedVariables false
open Go.PlainAid

def isB (c : Int) : Bool := c == 32 || c == 9 || c == 10 || c == 13
def isL (c : Int) : Bool := (decide (65 ≤ c) && decide (c ≤ 90)) || (decide (97 ≤ c) && decide (c ≤ 122))
def isD (c : Int) : Bool := decide (48 ≤ c) && decide (c ≤ 57)
def isN (c : Int) : Bool := isL c || isD c || c == 95 || c == 39
def symL : List UInt8 := [33, 37, 38, 36, 35, 43, 45, 47, 58, 60, 61, 62, 63, 64, 92, 126, 96, 94, 124, 42]
def loneL : List UInt8 := [40, 41, 91, 93, 123, 125, 44, 59, 95]
def isS (c : Int) : Bool := decide (0 ≤ Lib.indexByte symL c.toNat.toUInt8)
def isO (c : Int) : Bool := decide (0 ≤ Lib.indexByte loneL c.toNat.toUInt8)
theorem isL_0 : isL 0 = false := rfl
theorem isD_0 : isD 0 = false := rfl
theorem isN_0 : isN 0 = false := rfl
theorem isS_0 : isS 0 = false := by decide

/-! ### a row of bytes of one kind -/
def runF (p : Int → Bool) (s : ByteArray) : Nat → Nat → Nat
  | 0, a => a
  | k + 1, a => if p (bt s a) = true then runF p s k (a + 1) else a
/-- the first place from a on whose byte is not of the kind -/
def run (p : Int → Bool) (s : ByteArray) (a : Nat) : Nat := runF p s (s.size - a) a
theorem run_end {p : Int → Bool} {s : ByteArray} {a : Nat} (h : s.size ≤ a) : run p s a = a := by
  unfold run; rw [Nat.sub_eq_zero_of_le h]; rfl
theorem run_no {p : Int → Bool} {s : ByteArray} {a : Nat} (h : p (bt s a) = false) : run p s a = a := by
  unfold run
  cases s.size - a with
  | zero => rfl
  | succ k => simp [runF, h]
theorem run_yes {p : Int → Bool} {s : ByteArray} {a : Nat} (h : a < s.size) (hp : p (bt s a) = true) : run p s a = run p s (a + 1) := by
  unfold run
  obtain ⟨k, hk⟩ : ∃ k, s.size - a = k + 1 := ⟨s.size - a - 1, by omega⟩
  rw [hk, show s.size - (a + 1) = k by omega]
  simp [runF, hp]
theorem runF_ge (p : Int → Bool) (s : ByteArray) : ∀ k a, a ≤ runF p s k a
  | 0, a => Nat.le_refl a
  | k + 1, a => by
    unfold runF
    split
    · have := runF_ge p s k (a + 1); omega
    · exact Nat.le_refl a
theorem runF_le (p : Int → Bool) (s : ByteArray) : ∀ k a, runF p s k a ≤ a + k
  | 0, a => Nat.le_refl a
  | k + 1, a => by
    unfold runF
    split
    · have := runF_le p s k (a + 1); omega
    · omega
theorem run_ge (p : Int → Bool) (s : ByteArray) (a : Nat) : a ≤ run p s a := runF_ge p s _ a
theorem run_le (p : Int → Bool) (s : ByteArray) (a : Nat) (h : a ≤ s.size) : run p s a ≤ s.size := by
  have := runF_le p s (s.size - a) a
  unfold run; omega
theorem lt_of_bt {s : ByteArray} {a : Nat} (h : bt s a ≠ 0) : a < s.size := by
  by_cases h1 : a < s.size
  · exact h1
  · exact absurd (bt_end s (by omega)) h
theorem lt_of_p {p : Int → Bool} {s : ByteArray} {a : Nat} (h0 : p 0 = false) (h : p (bt s a) = true) : a < s.size :=
  lt_of_bt (fun e => by rw [e, h0] at h; cases h)
theorem run_gt {p : Int → Bool} {s : ByteArray} {a : Nat} (h0 : p 0 = false) (h : p (bt s a) = true) : a < run p s a := by
  rw [run_yes (lt_of_p h0 h) h]
  exact run_ge p s (a + 1)

/-! ### blanks and remarks -/
def opens (s : ByteArray) (a : Nat) : Bool := bt s a == 40 && bt s (a + 1) == 42
def closes (s : ByteArray) (a : Nat) : Bool := bt s a == 42 && bt s (a + 1) == 41
theorem opens_lt {s : ByteArray} {a : Nat} (h : opens s a = true) : a + 2 ≤ s.size := by
  simp only [opens, Bool.and_eq_true, beq_iff_eq] at h
  exact lt_of_bt (a := a + 1) (by omega)
theorem closes_lt {s : ByteArray} {a : Nat} (h : closes s a = true) : a + 2 ≤ s.size := by
  simp only [closes, Bool.and_eq_true, beq_iff_eq] at h
  exact lt_of_bt (a := a + 1) (by omega)

def remF (s : ByteArray) : Nat → Nat → Nat → Option Nat
  | 0, _, _ => none
  | k + 1, a, d => if opens s a = true then remF s k (a + 2) (d + 1) else if closes s a = true then (if d ≤ 1 then some (a + 2) else remF s k (a + 2) (d - 1)) else if a < s.size then remF s k (a + 1) d else none
theorem remF_fuel (s : ByteArray) : ∀ k k' a d, s.size - a ≤ k → s.size - a ≤ k' → remF s k a d = remF s k' a d := by
  intro k
  induction k with
  | zero =>
    intro k' a d h _
    have hn : ¬ a < s.size := by omega
    cases k' with
    | zero => rfl
    | succ k' =>
      have h1 : ¬ opens s a = true := fun e => by have := opens_lt e; omega
      have h2 : ¬ closes s a = true := fun e => by have := closes_lt e; omega
      simp [remF, h1, h2, hn]
  | succ k ih =>
    intro k' a d h h'
    cases k' with
    | zero =>
      have hn : ¬ a < s.size := by omega
      have h1 : ¬ opens s a = true := fun e => by have := opens_lt e; omega
      have h2 : ¬ closes s a = true := fun e => by have := closes_lt e; omega
      simp [remF, h1, h2, hn]
    | succ k' =>
      unfold remF
      rw [ih k' (a + 2) (d + 1) (by omega) (by omega), ih k' (a + 2) (d - 1) (by omega) (by omega), ih k' (a + 1) d (by omega) (by omega)]
/-- the place behind a remark, from a on, d remarks deep -/
def rem (s : ByteArray) (a d : Nat) : Option Nat := remF s (s.size - a) a d
theorem rem_open {s : ByteArray} {a d : Nat} (h : opens s a = true) : rem s a d = rem s (a + 2) (d + 1) := by
  have := opens_lt h
  unfold rem
  obtain ⟨k, hk⟩ : ∃ k, s.size - a = k + 1 := ⟨s.size - a - 1, by omega⟩
  rw [hk]
  rw [show remF s (k + 1) a d = remF s k (a + 2) (d + 1) by simp [remF, h]]
  exact remF_fuel s _ _ _ _ (by omega) (Nat.le_refl _)
theorem rem_shut1 {s : ByteArray} {a d : Nat} (h0 : opens s a = false) (h : closes s a = true) (hd : d ≤ 1) : rem s a d = some (a + 2) := by
  have := closes_lt h
  unfold rem
  obtain ⟨k, hk⟩ : ∃ k, s.size - a = k + 1 := ⟨s.size - a - 1, by omega⟩
  rw [hk]
  simp [remF, h, h0, hd]
theorem rem_shut2 {s : ByteArray} {a d : Nat} (h0 : opens s a = false) (h : closes s a = true) (hd : ¬ d ≤ 1) : rem s a d = rem s (a + 2) (d - 1) := by
  have := closes_lt h
  unfold rem
  obtain ⟨k, hk⟩ : ∃ k, s.size - a = k + 1 := ⟨s.size - a - 1, by omega⟩
  rw [hk]
  rw [show remF s (k + 1) a d = remF s k (a + 2) (d - 1) by simp [remF, h0, h, hd]]
  exact remF_fuel s _ _ _ _ (by omega) (Nat.le_refl _)
theorem rem_skip {s : ByteArray} {a d : Nat} (h0 : opens s a = false) (h : closes s a = false) (ha : a < s.size) : rem s a d = rem s (a + 1) d := by
  unfold rem
  obtain ⟨k, hk⟩ : ∃ k, s.size - a = k + 1 := ⟨s.size - a - 1, by omega⟩
  rw [hk]
  rw [show remF s (k + 1) a d = remF s k (a + 1) d by simp [remF, h0, h, ha]]
  exact remF_fuel s _ _ _ _ (by omega) (Nat.le_refl _)
theorem rem_end {s : ByteArray} {a d : Nat} (h : s.size ≤ a) : rem s a d = none := by
  unfold rem; rw [Nat.sub_eq_zero_of_le h]; rfl
theorem remF_bound (s : ByteArray) : ∀ k a d b, remF s k a d = some b → a < b ∧ b ≤ s.size
  | 0, _, _, _, h => by cases h
  | k + 1, a, d, b, h => by
    unfold remF at h
    split at h
    · rename_i ho
      have := remF_bound s k _ _ _ h; omega
    · split at h
      · rename_i hc
        have := closes_lt hc
        split at h
        · cases h; omega
        · have := remF_bound s k _ _ _ h; omega
      · split at h
        · have := remF_bound s k _ _ _ h; omega
        · cases h
theorem rem_bound {s : ByteArray} {a d b : Nat} (h : rem s a d = some b) : a < b ∧ b ≤ s.size := remF_bound s _ _ _ _ h

def blF (s : ByteArray) : Nat → Nat → Option Nat
  | 0, a => some a
  | k + 1, a => if isB (bt s a) = true then blF s k (a + 1) else if opens s a = true then (match rem s a 0 with | none => none | some b => blF s k b) else some a
theorem isB_lt {s : ByteArray} {a : Nat} (h : isB (bt s a) = true) : a < s.size := lt_of_p (p := isB) rfl h
theorem blF_fuel (s : ByteArray) : ∀ k k' a, s.size - a ≤ k → s.size - a ≤ k' → blF s k a = blF s k' a := by
  intro k
  induction k with
  | zero =>
    intro k' a h _
    cases k' with
    | zero => rfl
    | succ k' =>
      have h1 : ¬ opens s a = true := fun e => by have := opens_lt e; omega
      have h2 : ¬ isB (bt s a) = true := fun e => by have := isB_lt e; omega
      simp [blF, h1, h2]
  | succ k ih =>
    intro k' a h h'
    cases k' with
    | zero =>
      have h1 : ¬ opens s a = true := fun e => by have := opens_lt e; omega
      have h2 : ¬ isB (bt s a) = true := fun e => by have := isB_lt e; omega
      simp [blF, h1, h2]
    | succ k' =>
      unfold blF
      rw [ih k' (a + 1) (by omega) (by omega)]
      cases hr : rem s a 0 with
      | none => rfl
      | some b =>
        dsimp only
        rw [ih k' b (by have := rem_bound hr; omega) (by have := rem_bound hr; omega)]
/-- the place behind blanks and remarks; none: a remark does not end -/
def bl (s : ByteArray) (a : Nat) : Option Nat := blF s (s.size - a) a
theorem bl_blank {s : ByteArray} {a : Nat} (h : isB (bt s a) = true) : bl s a = bl s (a + 1) := by
  have := isB_lt h
  unfold bl
  obtain ⟨k, hk⟩ : ∃ k, s.size - a = k + 1 := ⟨s.size - a - 1, by omega⟩
  rw [hk, show s.size - (a + 1) = k by omega]
  simp [blF, h]
theorem bl_none {s : ByteArray} {a : Nat} (h0 : isB (bt s a) = false) (h : opens s a = true) (hr : rem s a 0 = none) : bl s a = none := by
  have := opens_lt h
  unfold bl
  obtain ⟨k, hk⟩ : ∃ k, s.size - a = k + 1 := ⟨s.size - a - 1, by omega⟩
  rw [hk]
  simp [blF, h0, h, hr]
theorem bl_some {s : ByteArray} {a b : Nat} (h0 : isB (bt s a) = false) (h : opens s a = true) (hr : rem s a 0 = some b) : bl s a = bl s b := by
  have := opens_lt h
  have := rem_bound hr
  unfold bl
  obtain ⟨k, hk⟩ : ∃ k, s.size - a = k + 1 := ⟨s.size - a - 1, by omega⟩
  rw [hk, show blF s (k + 1) a = blF s k b by simp [blF, h0, h, hr]]
  exact blF_fuel s _ _ _ (by omega) (Nat.le_refl _)
theorem bl_other {s : ByteArray} {a : Nat} (h0 : isB (bt s a) = false) (h : opens s a = false) : bl s a = some a := by
  unfold bl
  cases s.size - a with
  | zero => rfl
  | succ k => simp [blF, h0, h]
theorem bl_end {s : ByteArray} {a : Nat} (h : s.size ≤ a) : bl s a = some a := by
  unfold bl; rw [Nat.sub_eq_zero_of_le h]; rfl
theorem blF_bound (s : ByteArray) : ∀ k a b, a ≤ s.size → blF s k a = some b → a ≤ b ∧ b ≤ s.size
  | 0, a, b, ha, h => by cases h; omega
  | k + 1, a, b, ha, h => by
    unfold blF at h
    split at h
    · rename_i hb
      have := isB_lt hb
      have := blF_bound s k _ _ (by omega) h; omega
    · split at h
      · split at h
        · cases h
        · rename_i c hr
          have := rem_bound hr
          have := blF_bound s k _ _ (by omega) h; omega
      · cases h; omega
theorem bl_bound {s : ByteArray} {a b : Nat} (ha : a ≤ s.size) (h : bl s a = some b) : a ≤ b ∧ b ≤ s.size := blF_bound s _ _ _ ha h

/-! ### words -/
/-- a word: its kind, its text, the number that it says, a real's bits, a character's byte, its place -/
structure Tk where
  kind : Int
  text : ByteArray
  z : Int
  bits : Int
  n : Int
  pl : Nat

/-- refused, or a word and the place behind it -/
inductive Wd where
  | bad (code : Int) (pl : Nat)
  | ok (t : Tk) (e : Nat)

def resL : List (List UInt8) := [[97, 110, 100], [97, 110, 100, 97, 108, 115, 111], [97, 115], [99, 97, 115, 101], [100, 97, 116, 97, 116, 121, 112, 101], [100, 111], [101, 108, 115, 101], [101, 110, 100], [101, 120, 99, 101, 112, 116, 105, 111, 110], [102, 110], [102, 117, 110], [104, 97, 110, 100, 108, 101],
  [105, 102], [105, 110], [105, 110, 102, 105, 120], [105, 110, 102, 105, 120, 114], [108, 101, 116], [110, 111, 110, 102, 105, 120], [111, 102], [111, 112], [111, 114, 101, 108, 115, 101], [114, 97, 105, 115, 101], [115, 105, 103], [115, 105, 103, 110, 97, 116, 117, 114, 101],
  [115, 116, 114, 117, 99, 116], [115, 116, 114, 117, 99, 116, 117, 114, 101], [116, 104, 101, 110], [116, 121, 112, 101], [118, 97, 108], [119, 104, 105, 108, 101],
  [45, 62], [61, 62], [58], [58, 62], [61], [124], [35], [40], [41], [91], [93], [123], [125], [44], [59], [95]]
/-- is it reserved? -/
def resv (l : List UInt8) : Bool := resL.contains l

def stands (k : Int) (s : ByteArray) (a e : Nat) : Wd := .ok ⟨k, s.extract a e, 0, 0, 0, a⟩ e
def limd (k : Int) (s : ByteArray) (a e most : Nat) : Wd := if most < e - a then .bad 32 a else stands k s a e

def nmF (s : ByteArray) : Nat → Nat → Nat ⊕ Nat
  | 0, e => .inr e
  | k + 1, e => if bt s e = 46 ∧ isL (bt s (e + 1)) = true then (if resv (s.extract (e + 1) (run isN s (e + 1))).data.toList = true then .inl (e + 1) else nmF s k (run isN s (e + 1))) else .inr e
/-- a long name's further parts: where one that is reserved begins, or the name's end -/
def nm (s : ByteArray) (e : Nat) : Nat ⊕ Nat := nmF s (s.size - e) e
def nameW (s : ByteArray) (a : Nat) : Wd :=
  if resv (s.extract a (run isN s a)).data.toList = true then stands 8 s a (run isN s a) else match nm s (run isN s a) with
    | .inl p => .bad 32 p
    | .inr e => limd 1 s a e 64
def tyL (s : ByteArray) (a : Nat) : Nat := if bt s (a + 1) = 39 then a + 2 else a + 1
def tyvW (s : ByteArray) (a : Nat) : Wd := if isL (bt s (tyL s a)) = true then limd 3 s a (run isN s (tyL s a)) 64 else .bad 30 a
def symW (s : ByteArray) (a : Nat) : Wd := if resv (s.extract a (run isS s a)).data.toList = true then stands 8 s a (run isS s a) else limd 2 s a (run isS s a) 64

def frac (s : ByteArray) (a : Nat) : Nat := if bt s a = 46 ∧ isD (bt s (a + 1)) = true then run isD s (a + 1) else a
def exD (s : ByteArray) (a : Nat) : Nat := if bt s (a + 1) = 126 then a + 2 else a + 1
def expo (s : ByteArray) (a : Nat) : Nat := if bt s a = 101 ∧ isD (bt s (exD s a)) = true then run isD s (exD s a) else a
def nuD (s : ByteArray) (a : Nat) : Nat := if bt s a = 126 then a + 1 else a
def whole (s : ByteArray) (a : Nat) : Nat := run isD s (nuD s a)
def numE (s : ByteArray) (a : Nat) : Nat := expo s (frac s (whole s a))
def dcv (l : List UInt8) : Nat := l.foldl (fun a c => a * 10 + (c.toNat - 48)) 0
def zof (l : List UInt8) : Int := match l with | 126 :: r => -(dcv r : Int) | l => (dcv l : Int)
def numW (rb : ByteArray → Int) (s : ByteArray) (a : Nat) : Wd :=
  if numE s a = whole s a then (if 2000 < numE s a - a then .bad 32 a else .ok ⟨4, s.extract a (numE s a), zof (s.extract a (numE s a)).data.toList, 0, 0, a⟩ (numE s a))
  else if 100 < numE s a - a then .bad 32 a else .ok ⟨5, s.extract a (numE s a), 0, rb (s.extract a (numE s a)), 0, a⟩ (numE s a)

def escB (s : ByteArray) (a : Nat) : Int × Nat :=
  if bt s (a + 1) = 110 then (10, 2) else if bt s (a + 1) = 116 then (9, 2) else if bt s (a + 1) = 92 ∨ bt s (a + 1) = 34 then (bt s (a + 1), 2)
  else if isD (bt s (a + 1)) = true ∧ isD (bt s (a + 2)) = true ∧ isD (bt s (a + 3)) = true then
    (if 255 < ((bt s (a + 1) - 48) * 10 + (bt s (a + 2) - 48)) * 10 + (bt s (a + 3) - 48) then (0, 0) else (((bt s (a + 1) - 48) * 10 + (bt s (a + 2) - 48)) * 10 + (bt s (a + 3) - 48), 4))
  else (0, 0)
inductive Qd where
  | bad (code : Int) (pl : Nat)
  | ok (l : List UInt8) (e : Nat)
def quF (s : ByteArray) : Nat → Nat → List UInt8 → Qd
  | 0, _, _ => .bad 31 s.size
  | k + 1, a, l => if bt s a = 34 then .ok l (a + 1)
    else if bt s a = 92 then (if (escB s a).2 = 0 then .bad 32 a else quF s k (a + (escB s a).2) (l ++ [(escB s a).1.toNat.toUInt8]))
    else if a < s.size then (if bt s a < 32 ∨ 126 < bt s a then .bad 32 a else quF s k (a + 1) (l ++ [(bt s a).toNat.toUInt8]))
    else .bad 31 s.size
/-- what stands between quotes, from a on, l having been read -/
def qu (s : ByteArray) (a : Nat) (l : List UInt8) : Qd := quF s (s.size - a) a l
def strOf (l : List UInt8) : ByteArray := ⟨l.toArray⟩
def textW (s : ByteArray) (a : Nat) : Wd := match qu s (a + 1) [] with
  | .bad c p => .bad c p
  | .ok l e => .ok ⟨7, strOf l, 0, 0, 0, a⟩ e
def charW (s : ByteArray) (a : Nat) : Wd := match qu s (a + 2) [] with
  | .bad c p => .bad c p
  | .ok l e => if l.length = 1 then .ok ⟨6, strOf l, 0, 0, ((l.getD 0 0).toNat : Int), a⟩ e else .bad 32 a

def isNum (s : ByteArray) (a : Nat) : Bool := isD (bt s a) || (bt s a == 126 && isD (bt s (a + 1)))
def wordW (rb : ByteArray → Int) (s : ByteArray) (a : Nat) : Wd :=
  if isL (bt s a) = true then nameW s a else if isNum s a = true then numW rb s a else if bt s a = 34 then textW s a else if bt s a = 35 ∧ bt s (a + 1) = 34 then charW s a
  else if bt s a = 39 then tyvW s a else if isO (bt s a) = true then stands 8 s a (a + 1) else if isS (bt s a) = true then symW s a else .bad 30 a

/-- refused, or all words -/
inductive Ls where
  | bad (code : Int) (pl : Nat)
  | ok (l : List Tk)
def allF (rb : ByteArray → Int) (s : ByteArray) : Nat → Nat → List Tk → Ls
  | 0, _, l => .ok l
  | k + 1, e, l => match bl s e with
    | none => .bad 31 s.size
    | some a => if a = s.size then .ok l else match wordW rb s a with
      | .bad c p => .bad c p
      | .ok t e' => allF rb s k e' (l ++ [t])
def lexW (rb : ByteArray → Int) (s : ByteArray) : Ls := if 65536 < s.size then .bad 2 0 else allF rb s (s.size + 1) 0 []
/-- the text that awake reads -/
def awT : ByteArray := ⟨#[118, 97, 108, 32, 65, 46, 120, 39, 32, 61, 32, 126, 49, 50, 32, 40, 42, 32, 97, 32, 42, 41, 32, 35, 34, 98, 34]⟩
def kindsOf : Ls → List (Int × List UInt8 × Int × Int × Nat)
  | .bad _ _ => []
  | .ok l => l.map fun t => (t.kind, t.text.data.toList, t.z, t.n, t.pl)
set_option maxRecDepth 100000 in
theorem aw_kinds (rb : ByteArray → Int) : kindsOf (lexW rb awT) = [(8, [118, 97, 108], 0, 0, 0), (1, [65, 46, 120, 39], 0, 0, 4), (8, [61], 0, 0, 9), (4, [126, 49, 50], -12, 0, 11), (6, [98], 0, 98, 23)] := by rfl
end Go.Proofs.YtcmhfeeocehlaaaGreatDoor
