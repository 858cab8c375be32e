/-
  A thing's bytes, in plain functions, and the thing that bytes say: what was laid is read again.
-/
import Derived.Test.YtlkbnjdhokjfnaaBfs
namespace Go.Proofs.Ytlkbnjdhokjfnaa.Hp
set_option linter.unusedSimpArgs false
set_option linter.unusedVariables false

/-- k bytes of a number, the lowest first -/
def le : Nat → Nat → List UInt8
  | 0, _ => []
  | k + 1, x => UInt8.ofNat (x % 256) :: le k (x / 256)
/-- bytes as a number, the lowest first -/
def num : List UInt8 → Nat
  | [] => 0
  | b :: l => b.toNat + 256 * num l

theorem le_length : ∀ (k x : Nat), (le k x).length = k
  | 0, _ => rfl
  | k + 1, x => by simp [le, le_length k]
theorem num_le : ∀ (k x : Nat), num (le k x) = x % 256 ^ k
  | 0, x => by simp [le, num, Nat.mod_one]
  | k + 1, x => by
    simp only [le, num, num_le k]
    have : (UInt8.ofNat (x % 256)).toNat = x % 256 := by
      rw [UInt8.toNat_ofNat']; omega
    rw [this, Nat.pow_succ, Nat.mul_comm (256 ^ k), Nat.mod_mul]
theorem num_lt : ∀ (l : List UInt8), num l < 256 ^ l.length
  | [] => by simp [num]
  | b :: l => by
    have h1 := num_lt l
    have h2 := b.toNat_lt
    simp only [num, List.length_cons, Nat.pow_succ]
    omega
theorem num_le8 {x : Nat} (h : x < 18446744073709551616) : num (le 8 x) = x := by
  rw [num_le]
  exact Nat.mod_eq_of_lt h

/-- n bytes from the place o on -/
def sub (b : List UInt8) (o n : Nat) : List UInt8 := (b.drop o).take n
theorem sub_mid {a x c : List UInt8} {i n : Nat} (h : i + n ≤ x.length) : sub (a ++ (x ++ c)) (a.length + i) n = sub x i n := by
  unfold sub
  rw [List.drop_append, List.drop_eq_nil_of_le (by omega : a.length ≤ a.length + i)]
  simp only [List.nil_append, Nat.add_sub_cancel_left]
  rw [List.drop_append_of_le_length (by omega), List.take_append_of_le_length (by simp; omega)]
theorem sub_left {x c : List UInt8} {n : Nat} (h : x.length = n) : sub (x ++ c) 0 n = x := by
  unfold sub
  simp [List.take_append_of_le_length (Nat.le_of_eq h.symm), List.take_of_length_le (Nat.le_of_eq h)]
theorem sub_right {x c : List UInt8} {i n m : Nat} (h : x.length = m) : sub (x ++ c) (m + i) n = sub c i n := by
  unfold sub
  rw [List.drop_append, List.drop_eq_nil_of_le (by omega)]
  simp [h]

/-- words as bytes -/
def lay (ws : List Nat) : List UInt8 := ws.flatMap (le 8)
theorem lay_length : ∀ (ws : List Nat), (lay ws).length = 8 * ws.length
  | [] => rfl
  | w :: ws => by
    have := lay_length ws
    simp only [lay, List.flatMap_cons, List.length_append, le_length, List.length_cons] at this ⊢
    omega
/-- n words from the place o on -/
def wordsAt (b : List UInt8) (o n : Nat) : List Nat := (List.range n).map (fun k => num (sub b (o + 8 * k) 8))
theorem wordsAt_lay : ∀ (ws : List Nat) (a c : List UInt8), (∀ w ∈ ws, w < 18446744073709551616) → wordsAt (a ++ (lay ws ++ c)) a.length ws.length = ws
  | [], _, _, _ => rfl
  | w :: ws, a, c, h => by
    unfold wordsAt
    rw [List.length_cons, List.range_succ_eq_map, List.map_cons, List.map_map]
    have e : lay (w :: ws) = le 8 w ++ lay ws := rfl
    congr 1
    · rw [e, List.append_assoc, sub_mid (a := a) (x := le 8 w) (by simp [le_length])]
      rw [← List.append_nil (le 8 w), sub_left (le_length 8 w), num_le8 (h w (List.mem_cons_self ..))]
    · have ih := wordsAt_lay ws (a ++ le 8 w) c (fun x hx => h x (List.mem_cons_of_mem _ hx))
      rw [e]
      refine Eq.trans ?_ ih
      unfold wordsAt
      apply List.map_congr_left
      intro k _
      simp only [Function.comp, List.length_append, le_length, List.append_assoc]
      congr 2
      omega

def isRow (k : Int) : Bool := k == 2 || k == 3 || k == 4 || k == 7
/-- may a thing be, its values aside? -/
def mayBe (kind tag : Int) (bytes : List UInt8) (refs : Nat) : Bool :=
  (if isRow kind then decide (refs = 0) else bytes.isEmpty) &&
  (if kind = 1 then decide (0 ≤ tag ∧ tag ≤ 65535)
   else if kind = 8 then decide (0 ≤ tag ∧ tag < 4194304)
   else if kind = 2 ∨ kind = 6 ∨ kind = 7 then decide (tag = 0)
   else if kind = 4 then decide (tag = 0 ∧ bytes.length = 8)
   else if kind = 5 then decide (tag = 0 ∧ refs = 1)
   else if kind = 3 then decide (0 ≤ tag ∧ tag ≤ 1 ∧ 8 ≤ bytes.length ∧ bytes.length % 4 = 0 ∧ num (bytes.drop (bytes.length - 4)) ≠ 0 ∧
     (8 < bytes.length ∨ 4611686018427387903 + tag < (num bytes : Int)))
   else false)
def May {K : Type} (t : Nd K) : Bool := mayBe t.kind t.tag t.bytes t.refs.length
theorem May.map {K L : Type} (φ : K → L) (t : Nd K) : May (t.map φ) = May t := by
  simp [May, Nd.map]

def len {K : Type} (t : Nd K) : Nat := if isRow t.kind then t.bytes.length else if t.kind = 8 then t.refs.length + 1 else t.refs.length
def head {K : Type} (t : Nd K) : Nat := 1 + 2 * t.kind.toNat + 256 * (if t.kind = 8 then 0 else t.tag.toNat) + 16777216 * len t
/-- a value's word -/
def word {K : Type} (φ : K → Nat) : V K → Nat
  | .small n => ((2 * n + 1) % 18446744073709551616).toNat
  | .thing k => φ k
/-- a word's value -/
def value (x : Nat) : V Nat :=
  if x % 2 = 1 then .small (if x < 9223372036854775808 then (x / 2 : Nat) else ((x / 2 : Nat) : Int) - 9223372036854775808) else .thing x

theorem value_word {K : Type} (φ : K → Nat) (v : V K) (hs : ∀ n, v = .small n → -4611686018427387904 ≤ n ∧ n < 4611686018427387904) (ht : ∀ k, v = .thing k → φ k % 2 = 0) : value (word φ v) = v.map φ := by
  cases v with
  | small n =>
    obtain ⟨h1, h2⟩ := hs n rfl
    rcases Int.lt_or_le n 0 with h | h
    · have e : word φ (.small n) = (18446744073709551616 + 2 * n + 1).toNat := by
        simp only [word]; congr 1; omega
      rw [e]
      unfold value
      rw [if_pos (by omega), if_neg (by omega)]
      simp only [V.map, V.small.injEq]
      omega
    · have e : word φ (.small n) = (2 * n + 1).toNat := by
        simp only [word]; congr 1; omega
      rw [e]
      unfold value
      rw [if_pos (by omega), if_pos (by omega)]
      simp only [V.map, V.small.injEq]
      omega
  | thing k =>
    have h := ht k rfl
    have e : word φ (.thing k) = φ k := rfl
    rw [e]
    unfold value
    rw [if_neg (by omega)]
    rfl

def codeBase : Nat := 4194304
/-- the words behind a thing's header, if it has no bytes -/
def wordsOf {K : Type} (φ : K → Nat) (t : Nd K) : List Nat := (if t.kind = 8 then [codeBase + 16 * t.tag.toNat] else []) ++ t.refs.map (word φ)
def pad (n : Nat) : List UInt8 := List.replicate (8 * ((n + 7) / 8) - n) 0
def behind {K : Type} (φ : K → Nat) (t : Nd K) : List UInt8 := if isRow t.kind then t.bytes ++ pad t.bytes.length else lay (wordsOf φ t)
def bytesOf {K : Type} (φ : K → Nat) (t : Nd K) : List UInt8 := le 8 (head t) ++ behind φ t
def words {K : Type} (t : Nd K) : Nat := if isRow t.kind then (t.bytes.length + 7) / 8 else len t

theorem wordsOf_length {K : Type} {φ : K → Nat} {t : Nd K} (h : isRow t.kind = false) : (wordsOf φ t).length = len t := by
  simp only [wordsOf, len, h, List.length_append, List.length_map]
  split <;> simp <;> omega
theorem behind_length {K : Type} (φ : K → Nat) (t : Nd K) : (behind φ t).length = 8 * words t := by
  unfold behind words
  cases e : isRow t.kind with
  | true => simp [pad]; omega
  | false => simp [lay_length, wordsOf_length e]
theorem bytesOf_length {K : Type} (φ : K → Nat) (t : Nd K) : (bytesOf φ t).length = 8 + 8 * words t := by
  simp [bytesOf, le_length, behind_length]

/-- the thing at an address, b lying from the address at on -/
def read (b : List UInt8) (base x : Nat) : Option (Nd Nat) :=
  let o := x - base
  let h := num (sub b o 8)
  let kind := h / 2 % 16
  let tag := h / 256 % 65536
  let n := h / 16777216
  let ws := if isRow kind then (n + 7) / 8 else n
  if base ≤ x ∧ o + 8 ≤ b.length ∧ x % 8 = 0 ∧ h % 2 = 1 ∧ h / 64 % 4 = 0 ∧ 1 ≤ kind ∧ kind ≤ 8 ∧ ws ≤ (b.length - o - 8) / 8 then
    let t : Option (Nd Nat) :=
      if isRow kind then
        if sub b (o + 8 + n) (8 * ws - n) = List.replicate (8 * ws - n) 0 then some ⟨kind, tag, sub b (o + 8) n, []⟩ else none
      else if kind = 8 then
        match wordsAt b (o + 8) n with
        | [] => none
        | c :: l => if tag = 0 ∧ codeBase ≤ c ∧ (c - codeBase) % 16 = 0 ∧ (c - codeBase) / 16 < 4194304 then some ⟨kind, ((c - codeBase) / 16 : Nat), [], l.map value⟩ else none
      else some ⟨kind, tag, [], (wordsAt b (o + 8) n).map value⟩
    match t with
    | some t => if May t then some t else none
    | none => none
  else none

theorem sub_whole (x : List UInt8) : sub x 0 x.length = x := by simp [sub]

/-- what was laid is read again -/
theorem read_laid {K : Type} {φ : K → Nat} {t : Nd K} (hm : May t = true) (hl : len t < 1099511627776)
    (hs : ∀ n, V.small n ∈ t.refs → -4611686018427387904 ≤ n ∧ n < 4611686018427387904) (ht : ∀ k, V.thing k ∈ t.refs → φ k % 2 = 0 ∧ φ k < 18446744073709551616)
    {a c : List UInt8} {base x : Nat} (hx : x = base + a.length) (h8 : x % 8 = 0) : read (a ++ (bytesOf φ t ++ c)) base x = some (t.map φ) := by
  have hk : 1 ≤ t.kind ∧ t.kind ≤ 8 := by
    simp only [May, mayBe, Bool.and_eq_true] at hm
    have := hm.2
    repeat' split at this
    all_goals first | omega | cases this
  have htag : 0 ≤ t.tag ∧ (t.kind ≠ 8 → t.tag ≤ 65535) ∧ t.tag < 4194304 := by
    simp only [May, mayBe, Bool.and_eq_true] at hm
    have := hm.2
    repeat' split at this
    all_goals first | (simp at this; omega) | cases this
  have hh : head t < 18446744073709551616 := by
    unfold head
    split <;> omega
  have f1 : num (sub (a ++ (bytesOf φ t ++ c)) a.length 8) = head t := by
    have := sub_mid (a := a) (x := bytesOf φ t) (c := c) (i := 0) (n := 8) (by rw [bytesOf_length]; omega)
    rw [Nat.add_zero] at this
    rw [this, bytesOf, sub_left (le_length _ _), num_le8 hh]
  have g1 : head t / 2 % 16 = t.kind.toNat := by unfold head; split <;> omega
  have g2 : head t / 256 % 65536 = (if t.kind = 8 then 0 else t.tag.toNat) := by
    unfold head
    split
    · omega
    · have := htag.2.1 (by assumption); omega
  have g3 : head t / 16777216 = len t := by
    unfold head
    split
    · omega
    · have := htag.2.1 (by assumption); omega
  have g4 : head t % 2 = 1 := by unfold head; split <;> omega
  have g5 : head t / 64 % 4 = 0 := by
    unfold head
    split
    · omega
    · have := htag.2.1 (by assumption); omega
  have gk : ((t.kind.toNat : Nat) : Int) = t.kind := by omega
  have ho : x - base = a.length := by omega
  have hlen : (a ++ (bytesOf φ t ++ c)).length = a.length + (8 + 8 * words t) + c.length := by
    simp [bytesOf_length]; omega
  have hbase : base ≤ x := by omega
  have hws : (if isRow t.kind then (len t + 7) / 8 else len t) = words t := by
    unfold words
    cases e : isRow t.kind with
    | true => simp [len, e]
    | false => simp
  unfold read
  simp only [ho, f1, g1, g2, g3, g4, g5, gk, hws, hlen]
  rw [if_pos ⟨hbase, by omega, h8, trivial, trivial, by omega, by omega, by omega⟩]
  cases er : isRow t.kind with
  | true =>
    have e1 : len t = t.bytes.length := by simp [len, er]
    have e2 : words t = (t.bytes.length + 7) / 8 := by simp [words, er]
    have e3 : behind φ t = t.bytes ++ pad t.bytes.length := by simp [behind, er]
    have e4 : t.kind ≠ 8 := by intro h; rw [h] at er; simp [isRow] at er
    have s1 : sub (a ++ (bytesOf φ t ++ c)) (a.length + 8) (len t) = t.bytes := by
      rw [sub_mid (by rw [bytesOf_length, e2, e1]; omega), bytesOf, e3, e1]
      have := sub_right (x := le 8 (head t)) (c := t.bytes ++ pad t.bytes.length) (i := 0) (n := t.bytes.length) (le_length 8 _)
      rw [Nat.add_zero] at this
      rw [this, sub_left rfl]
    have s2 : sub (a ++ (bytesOf φ t ++ c)) (a.length + 8 + len t) (8 * words t - len t) = List.replicate (8 * words t - len t) 0 := by
      rw [Nat.add_assoc, sub_mid (by rw [bytesOf_length, e2, e1]; omega), bytesOf, e3, e1, e2]
      rw [sub_right (le_length 8 _)]
      have := sub_right (x := t.bytes) (c := pad t.bytes.length) (i := 0) (n := 8 * ((t.bytes.length + 7) / 8) - t.bytes.length) rfl
      rw [Nat.add_zero] at this
      rw [this]
      have h3 := sub_whole (pad t.bytes.length)
      have h4 : (pad t.bytes.length).length = 8 * ((t.bytes.length + 7) / 8) - t.bytes.length := by simp [pad]
      rw [h4] at h3
      rw [h3]; rfl
    simp only [if_true, s1, s2, if_neg e4]
    have hr : t.refs = [] := by
      simp only [May, mayBe, er, if_true, Bool.and_eq_true, decide_eq_true_eq, List.length_eq_zero_iff] at hm
      exact hm.1
    have e5 : (⟨t.kind, ((t.tag.toNat : Nat) : Int), t.bytes, []⟩ : Nd Nat) = t.map φ := by
      simp only [Nd.map, hr, List.map_nil]
      congr 1; omega
    rw [e5, May.map, hm]; rfl
  | false =>
    have e3 : behind φ t = lay (wordsOf φ t) := by simp [behind, er]
    have e1 : words t = (wordsOf φ t).length := by rw [wordsOf_length er]; simp [words, er]
    have hb : t.bytes = [] := by
      simp only [May, mayBe, er, Bool.and_eq_true] at hm
      simpa using hm.1
    have hw : ∀ w ∈ wordsOf φ t, w < 18446744073709551616 := by
      intro w hw
      unfold wordsOf at hw
      rcases List.mem_append.1 hw with h | h
      · split at h
        · simp [codeBase] at h; omega
        · cases h
      · obtain ⟨v, hv, rfl⟩ := List.mem_map.1 h
        cases v with
        | small n => simp only [word]; omega
        | thing k => exact (ht k hv).2
    have s1 : wordsAt (a ++ (bytesOf φ t ++ c)) (a.length + 8) (len t) = wordsOf φ t := by
      have := wordsAt_lay (wordsOf φ t) (a ++ le 8 (head t)) c hw
      rw [wordsOf_length er] at this
      simp only [List.length_append, le_length, List.append_assoc] at this
      rw [bytesOf, e3, List.append_assoc]
      exact this
    have hv : (t.refs.map (word φ)).map value = t.refs.map (V.map φ) := by
      rw [List.map_map]
      apply List.map_congr_left
      intro v hv
      exact value_word φ v (fun n e => hs n (e ▸ hv)) (fun k e => (ht k (e ▸ hv)).1)
    simp only [s1, if_false, Bool.false_eq_true]
    by_cases e8 : t.kind = 8
    · have hn : t.kind.toNat = 8 := by omega
      have ew : wordsOf φ t = (codeBase + 16 * t.tag.toNat) :: t.refs.map (word φ) := by simp [wordsOf, e8]
      simp only [hn, if_true, ew, if_pos e8]
      rw [if_pos ⟨trivial, by omega, by omega, by omega⟩]
      have e5 : (⟨t.kind, (((codeBase + 16 * t.tag.toNat - codeBase) / 16 : Nat) : Int), [], (t.refs.map (word φ)).map value⟩ : Nd Nat) = t.map φ := by
        simp only [Nd.map, hb, hv]
        congr 1; omega
      simp only [e5, May.map, hm, if_true]
    · have hn : t.kind.toNat ≠ 8 := by omega
      have ew : wordsOf φ t = t.refs.map (word φ) := by simp [wordsOf, e8]
      simp only [if_neg hn, ew, if_neg e8]
      have e5 : (⟨t.kind, ((t.tag.toNat : Nat) : Int), [], (t.refs.map (word φ)).map value⟩ : Nd Nat) = t.map φ := by
        simp only [Nd.map, hb, hv]
        congr 1; omega
      simp only [e5, May.map, hm, if_true]

end Go.Proofs.Ytlkbnjdhokjfnaa.Hp
