/-
  Plain mathematics of limbs: numbers in lists of limbs, the least first. Nothing of the program.
-/
import Derived.Test.YtcmhfeeocehlaaaGreatDoorRows
import Derived.WalkKit
import Derived.WalkSpells
import Derived.WalkLawsBesides
import Derived.WalkMore
import Derived.Deep.RegionHeld3
import Derived.Deep.AppendLies
import Derived.Deep.DrawnRows
import Derived.Deep.QuietTactic
import Derived.BigQuiet
import Derived.Laws.CopyOwn
namespace Go.Proofs.YtcmhfeeocehlaaaGreatDoor
set_option linter.unusedSimpArgs false
set_option linter.unusedVariables false

/-- 2^32, behind a name -/
def B32 : Nat := 4294967296
theorem B32_eq : B32 = 4294967296 := rfl
/-- the number that limbs say -/
def val : List Nat → Nat
  | [] => 0
  | x :: l => x + B32 * val l
/-- limbs stand below 2^32 -/
def Lims (l : List Nat) : Prop := ∀ x, x ∈ l → x < 4294967296
/-- the highest limb is not 0 -/
def Nrm (l : List Nat) : Prop := l = [] ∨ l.getD (l.length - 1) 0 ≠ 0

theorem val_append (l r : List Nat) : val (l ++ r) = val l + B32 ^ l.length * val r := by
  induction l with
  | nil => simp [val]
  | cons x l ih => simp only [List.cons_append, val, ih, List.length_cons, Nat.pow_succ]; grind

theorem val_snoc (l : List Nat) (x : Nat) : val (l ++ [x]) = val l + B32 ^ l.length * x := by
  rw [val_append]; simp [val]

theorem val_lt (l : List Nat) (h : Lims l) : val l < B32 ^ l.length := by
  induction l with
  | nil => simp [val]
  | cons x l ih =>
    have h1 := ih (fun y hy => h y (List.mem_cons_of_mem _ hy))
    have h2 := h x (List.mem_cons_self ..)
    simp only [val, List.length_cons, Nat.pow_succ]
    have h3 : B32 * val l + B32 ≤ B32 * B32 ^ l.length := by
      rw [← Nat.mul_succ]; exact Nat.mul_le_mul_left _ h1
    rw [Nat.mul_comm (B32 ^ l.length)]
    have : B32 = 4294967296 := rfl
    omega

theorem lims_append {l r : List Nat} : Lims (l ++ r) ↔ Lims l ∧ Lims r := by
  simp only [Lims, List.mem_append]
  exact ⟨fun h => ⟨fun x hx => h x (.inl hx), fun x hx => h x (.inr hx)⟩, fun h x hx => hx.elim (h.1 x) (h.2 x)⟩

theorem lims_snoc {l : List Nat} {x : Nat} (h : Lims l) (hx : x < 4294967296) : Lims (l ++ [x]) :=
  lims_append.2 ⟨h, fun y hy => by simp at hy; omega⟩

theorem lims_getD {l : List Nat} (h : Lims l) (i : Nat) : l.getD i 0 < 4294967296 := by
  by_cases hi : i < l.length
  · rw [List.getD_eq_getElem?_getD, List.getElem?_eq_getElem hi]; exact h _ (List.getElem_mem hi)
  · rw [List.getD_eq_getElem?_getD, List.getElem?_eq_none (by omega)]; simp

theorem lims_of_getD {l : List Nat} (h : ∀ i, l.getD i 0 < 4294967296) : Lims l := by
  intro x hx
  obtain ⟨i, hi, rfl⟩ := List.getElem_of_mem hx
  have := h i
  rwa [List.getD_eq_getElem?_getD, List.getElem?_eq_getElem hi] at this

theorem take_snoc (l : List Nat) (k : Nat) (h : k < l.length) : l.take (k + 1) = l.take k ++ [l.getD k 0] := by
  rw [List.take_succ_eq_append_getElem h, List.getD_eq_getElem?_getD, List.getElem?_eq_getElem h]; rfl

/-- a limb more at the end -/
theorem val_take_succ (l : List Nat) (k : Nat) : val (l.take (k + 1)) = val (l.take k) + B32 ^ k * l.getD k 0 := by
  by_cases h : k < l.length
  · rw [take_snoc l k h, val_snoc, List.length_take, Nat.min_eq_left (Nat.le_of_lt h)]
  · rw [List.take_of_length_le (by omega), List.take_of_length_le (by omega), List.getD_eq_getElem?_getD, List.getElem?_eq_none (by omega)]; simp

/-- the length without the noughts at the end -/
def tl (l : List Nat) : Nat → Nat
  | 0 => 0
  | k + 1 => if l.getD k 0 = 0 then tl l k else k + 1

theorem tl_zero (l : List Nat) (k : Nat) (h : l.getD k 0 = 0) : tl l (k + 1) = tl l k := by rw [tl, if_pos h]
theorem tl_le (l : List Nat) (k : Nat) : tl l k ≤ k := by
  induction k with
  | zero => simp [tl]
  | succ k ih => unfold tl; split <;> omega
/-- limbs without the noughts at the end -/
def tr (l : List Nat) : List Nat := l.take (tl l l.length)

theorem val_tl (l : List Nat) (k : Nat) : val (l.take (tl l k)) = val (l.take k) := by
  induction k with
  | zero => simp [tl]
  | succ k ih =>
    unfold tl
    split
    · rename_i h; rw [ih, val_take_succ, h]; simp
    · rfl
theorem val_tr (l : List Nat) : val (tr l) = val l := by
  unfold tr; rw [val_tl]; simp
theorem tr_length (l : List Nat) : (tr l).length = tl l l.length := by
  have := tl_le l l.length
  unfold tr; rw [List.length_take]; omega
theorem tl_nz (l : List Nat) (k : Nat) : tl l k = 0 ∨ l.getD (tl l k - 1) 0 ≠ 0 := by
  induction k with
  | zero => simp [tl]
  | succ k ih =>
    unfold tl
    split
    · exact ih
    · right; simpa
theorem getD_take (l : List Nat) (k i : Nat) (h : i < k) : (l.take k).getD i 0 = l.getD i 0 := by
  simp only [List.getD_eq_getElem?_getD, List.getElem?_take, h, if_true]
theorem nrm_tr (l : List Nat) : Nrm (tr l) := by
  unfold Nrm
  rw [tr_length]
  rcases tl_nz l l.length with h | h
  · left; unfold tr; rw [h]; simp
  · by_cases h0 : tl l l.length = 0
    · left; unfold tr; rw [h0]; simp
    · right; unfold tr; rw [getD_take _ _ _ (by omega)]; exact h
theorem lims_take {l : List Nat} (h : Lims l) (k : Nat) : Lims (l.take k) := fun x hx => h x (List.mem_of_mem_take hx)
theorem lims_tr {l : List Nat} (h : Lims l) : Lims (tr l) := lims_take h _

theorem nrm_pos {l : List Nat} (h : Nrm l) (hn : l ≠ []) : B32 ^ (l.length - 1) ≤ val l := by
  rcases h with h | h
  · exact absurd h hn
  · have hl : 0 < l.length := List.length_pos_iff.2 hn
    have e : val l = val (l.take (l.length - 1 + 1)) := by rw [List.take_of_length_le (by omega)]
    rw [e, val_take_succ]
    have : B32 ^ (l.length - 1) * 1 ≤ B32 ^ (l.length - 1) * l.getD (l.length - 1) 0 := Nat.mul_le_mul_left _ (by omega)
    omega

theorem B32_pos : 0 < B32 := by decide
theorem pow_mono {a b : Nat} (h : a ≤ b) : B32 ^ a ≤ B32 ^ b := Nat.pow_le_pow_right B32_pos h

theorem val_zero_nrm {l : List Nat} (h : Nrm l) (hv : val l = 0) : l = [] := by
  by_cases hn : l = []
  · exact hn
  · have := nrm_pos h hn
    have := Nat.pow_pos (n := l.length - 1) B32_pos
    omega

/-- of two normal numbers the longer one is greater -/
theorem lt_of_length {x y : List Nat} (hx : Lims x) (hy : Nrm y) (h : x.length < y.length) : val x < val y := by
  have h1 := val_lt x hx
  have h2 := nrm_pos hy (by intro e; rw [e] at h; simp at h)
  have h3 := pow_mono (show x.length ≤ y.length - 1 by omega)
  omega

theorem length_le_of_val {x y : List Nat} (hx : Nrm x) (hy : Lims y) (h : val x ≤ val y) : x.length ≤ y.length := by
  by_cases hl : y.length < x.length
  · have := lt_of_length hy hx hl; omega
  · omega

theorem val_inj {x y : List Nat} (hx : Lims x) (hy : Lims y) (hl : x.length = y.length) (h : val x = val y) : x = y := by
  induction x generalizing y with
  | nil => exact (List.length_eq_zero_iff.1 (by simpa using hl.symm)).symm
  | cons a x ih =>
    cases y with
    | nil => simp at hl
    | cons b y =>
      have ha := hx a (List.mem_cons_self ..)
      have hb := hy b (List.mem_cons_self ..)
      simp only [val] at h
      have hB : B32 = 4294967296 := rfl
      rw [hB] at h
      have e1 : a = b := by omega
      have e2 : val x = val y := by omega
      rw [e1, ih (fun z hz => hx z (List.mem_cons_of_mem _ hz)) (fun z hz => hy z (List.mem_cons_of_mem _ hz)) (by simpa using hl) e2]

theorem nrm_inj {x y : List Nat} (hx : Lims x) (hy : Lims y) (nx : Nrm x) (ny : Nrm y) (h : val x = val y) : x = y :=
  val_inj hx hy (Nat.le_antisymm (length_le_of_val nx hy (by omega)) (length_le_of_val ny hx (by omega))) h

theorem val_split (l : List Nat) (k : Nat) (hk : k ≤ l.length) : val l = val (l.take k) + B32 ^ k * val (l.drop k) := by
  have h := val_append (l.take k) (l.drop k)
  rw [List.take_append_drop, List.length_take, Nat.min_eq_left hk] at h
  exact h
/-- the highest limbs that differ decide -/
theorem lt_at {x y : List Nat} {m : Nat} (hx : Lims x) (hm : m < x.length) (hm' : m < y.length) (hd : x.drop (m + 1) = y.drop (m + 1)) (h : x.getD m 0 < y.getD m 0) : val x < val y := by
  have e1 := val_split x (m + 1) (by omega)
  have e2 := val_split y (m + 1) (by omega)
  rw [val_take_succ] at e1 e2
  rw [hd] at e1
  have h1 := val_lt (x.take m) (lims_take hx m)
  rw [List.length_take, Nat.min_eq_left (by omega)] at h1
  have h2 : B32 ^ m * (x.getD m 0 + 1) ≤ B32 ^ m * y.getD m 0 := Nat.mul_le_mul_left _ h
  rw [Nat.mul_add] at h2
  omega

/-- one limb of a sum carried on: N so far, c carried, the next limbs come to s = d + 2^32 c' -/
theorem carry_step {N : List Nat} {k c c' d s X : Nat} (hk : N.length = k) (h : val N + B32 ^ k * c = X) (e : c + s = d + B32 * c') :
    val (N ++ [d]) + B32 ^ (k + 1) * c' = X + B32 ^ k * s := by
  subst hk
  rw [val_snoc, Nat.pow_succ]
  have : B32 ^ N.length * (c + s) = B32 ^ N.length * (d + B32 * c') := by rw [e]
  grind

end Go.Proofs.YtcmhfeeocehlaaaGreatDoor
namespace Go.Proofs.YtcmhfeeocehlaaaGreatDoor
set_option linter.unusedSimpArgs false
set_option linter.unusedVariables false
open Go.RowKit

theorem ret_int1 {k : IntKind} {a b : Int} (h : a = b) : Ending.returned (.int k a) = .returned (.int k b) := by rw [h]
theorem ret_bool1 {a b : Bool} (h : a = b) : Ending.returned (.bool a) = .returned (.bool b) := by rw [h]
/-- limbs as cells -/
def cl (l : List Nat) : List Value := l.map fun x : Nat => Value.int .u32 (x : Int)
theorem cl_length (l : List Nat) : (cl l).length = l.length := by simp [cl]
theorem cl_append (l r : List Nat) : cl (l ++ r) = cl l ++ cl r := by simp [cl]
theorem cl_get (l : List Nat) (i : Nat) (h : i < l.length) : (cl l)[i]? = some (.int .u32 ((l.getD i 0 : Nat) : Int)) := by
  simp [cl, List.getD_eq_getElem?_getD, List.getElem?_eq_getElem h]
theorem cl_one (l : List Nat) : ∀ v ∈ cl l, v.oneCell' = true := by
  intro v hv; simp only [cl, List.mem_map] at hv; obtain ⟨x, _, rfl⟩ := hv; rfl
theorem cl_take (l : List Nat) (k : Nat) : (cl l).take k = cl (l.take k) := by simp [cl, List.map_take]
theorem cl_drop (l : List Nat) (k : Nat) : (cl l).drop k = cl (l.drop k) := by simp [cl, List.map_drop]
theorem cl_replicate (n : Nat) : cl (List.replicate n 0) = List.replicate n (Value.int .u32 0) := by simp [cl]

/-- block g holds the limbs L from its head on (and perhaps more behind them), and may be written -/
def Row (w : World) (g : Nat) (L : List Nat) : Prop := ∃ sp : List Value, w.heap[g]? = some (.cells (cl L ++ sp).toArray 84 (0, 0))

theorem Row.lt {w : World} {g : Nat} {L : List Nat} (h : Row w g L) : g < w.heap.size := by
  obtain ⟨sp, h⟩ := h; exact (Array.getElem?_eq_some_iff.1 h).1
theorem Row.cell {w : World} {g : Nat} {L : List Nat} (h : Row w g L) (i : Nat) (hi : i < L.length) : w.cell? ⟨g, i, none⟩ = some (.int .u32 ((L.getD i 0 : Nat) : Int)) := by
  obtain ⟨sp, h⟩ := h
  have h2 : (cl L ++ sp)[i]? = some (.int .u32 ((L.getD i 0 : Nat) : Int)) := by
    rw [List.getElem?_append_left (by simpa [cl] using hi), cl_get L i hi]
  simp only [World.cell?, h]
  simpa using h2
theorem Row.frozen {w : World} {g : Nat} {L : List Nat} (h : Row w g L) (i : Nat) : w.frozen? ⟨g, i, none⟩ = false := by
  obtain ⟨sp, h⟩ := h
  simp [World.frozen?, h]
theorem Row.set {w : World} {g : Nat} {L : List Nat} (h : Row w g L) (i x : Nat) (hi : i < L.length) : Row (w.setCell ⟨g, i, none⟩ (.int .u32 (x : Int))) g (L.set i x) := by
  obtain ⟨sp, h⟩ := h
  refine ⟨sp, ?_⟩
  have hlt := (Array.getElem?_eq_some_iff.1 h).1
  simp only [World.setCell, Array.getElem?_modify, h]
  simp only [if_true, Option.map_some, Option.some.injEq, Obj.cells.injEq, and_true, Option.isSome_none, Bool.false_eq_true, if_false]
  rw [List.setIfInBounds_toArray, List.set_append_left _ _ (by simpa [cl] using hi)]
  simp [cl, List.map_set]
theorem Row.kept {w w' : World} {g : Nat} {L : List Nat} {r : Option Nat} (h : Row w g L) (hg : w.grownBy w' r) (hr : r ≠ some g) : Row w' g L := by
  have hlt := h.lt
  obtain ⟨sp, h⟩ := h
  exact ⟨sp, by rw [hg.block g hlt (fun e => hr e.symm)]; exact h⟩
theorem Row.made (w : World) (n : Nat) : Row (w.alloc (.cells (madeCells #[.int .u32 0] n) 84)) w.heap.size (List.replicate n 0) := by
  refine ⟨[], ?_⟩
  rw [heap_alloc_new, List.append_nil, cl_replicate, ← toList_madeCells_one]
theorem Row.drew {w : World} {g : Nat} {L : List Nat} (h : Row w g L) : Row w.drew g L := h
theorem Row.alloc {w : World} {g : Nat} {L : List Nat} (h : Row w g L) (o : Obj) : Row (w.alloc o) g L := by
  have hlt := h.lt
  obtain ⟨sp, h⟩ := h
  exact ⟨sp, by rw [Below.heap_alloc _ _ _ hlt]; exact h⟩
theorem Row.pre {w : World} {g : Nat} {L M : List Nat} (h : Row w g (L ++ M)) : Row w g L := by
  obtain ⟨sp, h⟩ := h; exact ⟨cl M ++ sp, by rw [h, cl_append, List.append_assoc]⟩
theorem Row.of_owns {w : World} {base g n cap : Nat} {L : List Nat} (h : w.ownsRow base 84 1 (.slice (some ⟨g, 0, none⟩) n cap) n (cl L)) : Row w g L ∧ base ≤ g ∧ L.length = n ∧ n ≤ cap ∧ cap ≤ 9223372036854775807 := by
  obtain ⟨hl, h⟩ := h
  rcases h with ⟨h, _⟩ | ⟨g', cap', cur, hv, hb, hg, hn, hm, hs, ht⟩
  · cases h
  · simp only [Value.slice.injEq, Option.some.injEq, Addr.mk.injEq, and_true, true_and] at hv
    obtain ⟨rfl, rfl⟩ := hv
    refine ⟨⟨cur.toList.drop (n * 1), ?_⟩, hb, by simpa [cl] using hl, hn, hm⟩
    rw [hg, ← ht, List.take_append_drop]

theorem gb_refl (w : World) (r : Option Nat) : w.grownBy w r := ⟨rfl, rfl, rfl, Nat.le_refl _, fun _ _ _ => rfl⟩
theorem gb_trans {a b c : World} {r s t : Option Nat} (h : a.grownBy b r) (k : b.grownBy c s) (hr : ∀ i, r = some i → i < a.heap.size → t = some i) (hs : ∀ i, s = some i → i < a.heap.size → t = some i) : a.grownBy c t :=
  ⟨k.os.trans h.os, k.tape.trans h.tape, k.output.trans h.output, Nat.le_trans h.size k.size, fun i hi hn =>
    (k.block i (Nat.lt_of_lt_of_le hi h.size) (fun e => hn (hs i e.symm hi).symm)).trans (h.block i hi (fun e => hn (hr i e.symm hi).symm))⟩
/-- two steps that write nothing old -/
theorem gb_then {a b c : World} {s : Option Nat} (h : a.grownBy b none) (k : b.grownBy c s) (hs : ∀ i, s = some i → a.heap.size ≤ i) : a.grownBy c none :=
  gb_trans h k (fun i e => by cases e) (fun i e hi => absurd (hs i e) (by omega))
/-- two steps that write the same row -/
theorem gb_same {a b c : World} {s : Option Nat} (h : a.grownBy b s) (k : b.grownBy c s) : a.grownBy c s :=
  gb_trans h k (fun i e _ => e) (fun i e _ => e)
theorem gb_set {a w : World} {r : Option Nat} (h : a.grownBy w r) (p : Addr) (v : Value) (hp : r = some p.block ∨ a.heap.size ≤ p.block) : a.grownBy (w.setCell p v) r :=
  gb_trans h (s := some p.block) ⟨rfl, rfl, rfl, by simp, fun k hk hn => Below.heap_setCell _ _ _ _ (fun e => hn (by rw [e]))⟩ (fun _ e _ => e) (fun i e hi => by
    rcases hp with hp | hp
    · rw [hp]; exact e
    · have : p.block = i := Option.some.inj e
      omega)
theorem gb_drew {a w : World} {r : Option Nat} (h : a.grownBy w r) : a.grownBy w.drew r := ⟨h.os, h.tape, h.output, h.size, h.block⟩
theorem gb_drewN {a w : World} {r : Option Nat} (h : a.grownBy w r) (n : Nat) : a.grownBy (w.drewN n) r := ⟨h.os, h.tape, h.output, h.size, h.block⟩
theorem gb_alloc {a w : World} {r : Option Nat} (h : a.grownBy w r) (o : Obj) : a.grownBy (w.alloc o) r :=
  gb_trans h (World.grownBy_alloc w o none) (fun _ e _ => e) (fun _ e => by cases e)
theorem gb_none {a w : World} (r : Option Nat) (h : a.grownBy w none) : a.grownBy w r := ⟨h.os, h.tape, h.output, h.size, fun k hk _ => h.block k hk (by simp)⟩
theorem gb_below {w w' : World} (h : w.grownBy w' none) : Below w.heap.size w w' := ⟨h.os, h.tape, h.output, h.size, fun k hk => h.block k hk (by simp)⟩
theorem below_gb {w w' : World} (h : Below w.heap.size w w') : w.grownBy w' none := ⟨h.os, h.tape, h.output, h.size, fun k hk _ => h.block k hk⟩
theorem gb_cell {w w' : World} {r : Option Nat} (h : w.grownBy w' r) {b o : Nat} {v : Value} (hc : w.cell? ⟨b, o, none⟩ = some v) (hr : r ≠ some b) : w'.cell? ⟨b, o, none⟩ = some v := h.cell hc (fun e => hr e.symm)

/-- A slice (address a, length n, capacity c) reads as the limbs l in the world w. -/
structure SL (w : World) (a : Option Addr) (n c : Nat) (l : List Nat) : Prop where
  len : l.length = n
  cap : n ≤ c
  big : n ≤ 35184372088832
  capm : c ≤ 9223372036854775807
  lim : Lims l
  nil : a = none → n = 0 ∧ c = 0
  at' : ∃ b off, (0 < n → a = some ⟨b, off, none⟩ ∧ b < w.heap.size) ∧ ∀ j, j < n → w.cell? ⟨b, off + j, none⟩ = some (.int .u32 ((l.getD j 0 : Nat) : Int))

/-- it does not lie in block g -/
def Off (a : Option Addr) (n g : Nat) : Prop := 0 < n → ∀ b off s, a = some ⟨b, off, s⟩ → b ≠ g

theorem SL.kept {w w' : World} {a : Option Addr} {n c : Nat} {l : List Nat} {r : Option Nat} (h : SL w a n c l) (hg : w.grownBy w' r) (hr : ∀ g, r = some g → Off a n g) : SL w' a n c l := by
  obtain ⟨h1, h2, h3, h3', h4, h5, b, off, ha, hc⟩ := h
  refine ⟨h1, h2, h3, h3', h4, h5, b, off, fun h => ⟨(ha h).1, Nat.lt_of_lt_of_le (ha h).2 hg.size⟩, fun j hj => gb_cell hg (hc j hj) ?_⟩
  intro e
  exact hr b e (by omega) b off none (ha (by omega)).1 rfl
theorem SL.grown {w w' : World} {a : Option Addr} {n c : Nat} {l : List Nat} (h : SL w a n c l) (hg : w.grownBy w' none) : SL w' a n c l := h.kept hg (fun _ e => by cases e)
theorem SL.nil' (w : World) : SL w none 0 0 [] := ⟨rfl, Nat.le_refl _, by omega, by omega, (by intro x hx; cases hx), fun _ => ⟨rfl, rfl⟩, 0, 0, fun h => by omega, fun j h => by omega⟩

/-- A slice that the call made: its limbs lie in a block from B on, at place off, and may be written. -/
structure OW (w : World) (B : Nat) (a : Option Addr) (n c : Nat) (l : List Nat) : Prop where
  sl : SL w a n c l
  own : 0 < n → ∃ g off L, a = some ⟨g, off, none⟩ ∧ B ≤ g ∧ Row w g L ∧ off + n ≤ L.length

theorem OW.nil' (w : World) (B : Nat) : OW w B none 0 0 [] := ⟨SL.nil' w, fun h => by omega⟩
theorem OW.kept {w w' : World} {B : Nat} {a : Option Addr} {n c : Nat} {l : List Nat} {r : Option Nat} (h : OW w B a n c l) (hg : w.grownBy w' r) (hr : ∀ g, r = some g → Off a n g) : OW w' B a n c l :=
  ⟨h.sl.kept hg hr, fun hn => by
    obtain ⟨g, off, L, e, hb, hrow, hl⟩ := h.own hn
    exact ⟨g, off, L, e, hb, hrow.kept hg (fun e' => hr g e' hn g off none e rfl), hl⟩⟩
theorem OW.grown {w w' : World} {B : Nat} {a : Option Addr} {n c : Nat} {l : List Nat} (h : OW w B a n c l) (hg : w.grownBy w' none) : OW w' B a n c l := h.kept hg (fun _ e => by cases e)
theorem OW.mono {w : World} {B B' : Nat} {a : Option Addr} {n c : Nat} {l : List Nat} (h : OW w B a n c l) (hB : B' ≤ B) : OW w B' a n c l :=
  ⟨h.sl, fun hn => by obtain ⟨g, off, L, e, hb, r⟩ := h.own hn; exact ⟨g, off, L, e, by omega, r⟩⟩
/-- the head of a row that is the call's own -/
theorem OW.of_row {w : World} {B g n c : Nat} {l L : List Nat} (hr : Row w g (l ++ L)) (hB : B ≤ g) (hn : l.length = n) (hc : n ≤ c) (hb : n ≤ 35184372088832) (hcm : c ≤ 9223372036854775807) (hl : Lims l) : OW w B (some ⟨g, 0, none⟩) n c l := by
  refine ⟨⟨hn, hc, hb, hcm, hl, (by simp), g, 0, fun _ => ⟨rfl, hr.lt⟩, fun j hj => ?_⟩, fun _ => ⟨g, 0, l ++ L, rfl, hB, hr, by simp; omega⟩⟩
  rw [Nat.zero_add, (hr.pre).cell j (by omega)]
/-- what lies below B does not lie in a block from B on -/
theorem Off.of_lt {w : World} {a : Option Addr} {n c : Nat} {l : List Nat} {g : Nat} (h : SL w a n c l) (hg : w.heap.size ≤ g) : Off a n g := by
  intro hn b off s e
  obtain ⟨b', off', ha, _⟩ := h.at'
  obtain ⟨ha, hb⟩ := ha hn
  rw [ha] at e
  simp only [Option.some.injEq, Addr.mk.injEq] at e
  omega

theorem u32_info : (Tryz.prog.info? 84).map (fun i => (i.zero, i.size, i.bytes)) = some (some (.int .u32 0), 1, 4) := by kernel_rfl
theorem u32_size : (Tryz.prog.info? 84).map (·.size) = some 1 := by kernel_rfl

/-- make([]uint32, n), whatever n of kind int the frame holds -/
theorem make_row (n : Nat) (hn : n ≤ 70368744177664) (w : World) :
    (Instr.makeSlice 33 (.int .i64 (n : Int)) (.int .i64 (n : Int))).run Tryz.prog w = .ok (.slice (some ⟨w.heap.size, 0, none⟩) n n) (w.alloc (.cells (madeCells #[.int .u32 0] n) 84)) := by
  obtain ⟨i0, hi, hz0, hz1, hz2⟩ := info_parts u32_info
  have h := run_make (P := Tryz.prog) w 33 84 i0 (.int .u32 0) Tryz.underlying33 hi hz0 .i64 .i64 (n : Int) (n : Int) (by omega) (Int.le_refl _) (by rw [hz2]; omega) (by omega)
  rw [Int.toNat_natCast, hz1] at h
  simpa [Value.cells] using h


/-- a window of a row, written up to place k -/
theorem win_getD (P N out S : List Nat) (off k : Nat) (hP : P.length = off) (hN : N.length = k) (hk : k < out.length) : (P ++ (N ++ out.drop k) ++ S).getD (off + k) 0 = out.getD k 0 := by
  subst hP; subst hN
  simp only [List.getD_eq_getElem?_getD]
  rw [List.getElem?_append_left (by simp; omega), List.getElem?_append_right (by omega), Nat.add_sub_cancel_left, List.getElem?_append_right (by omega), Nat.sub_self, List.getElem?_drop, Nat.add_zero]
theorem win_set (P N out S : List Nat) (off k d : Nat) (hP : P.length = off) (hN : N.length = k) (hk : k < out.length) : (P ++ (N ++ out.drop k) ++ S).set (off + k) d = P ++ ((N ++ [d]) ++ out.drop (k + 1)) ++ S := by
  subst hP; subst hN
  rw [List.set_append_left _ _ (by simp; omega), List.set_append_right _ _ (by omega), Nat.add_sub_cancel_left, List.set_append_right _ _ (by omega), Nat.sub_self, List.drop_eq_getElem_cons hk, List.set_cons_zero]
  simp only [List.append_assoc, List.cons_append, List.nil_append]
theorem Row.win_cell {w : World} {g off k : Nat} {P N out S : List Nat} (h : Row w g (P ++ (N ++ out.drop k) ++ S)) (hP : P.length = off) (hN : N.length = k) (hk : k < out.length) : w.cell? ⟨g, off + k, none⟩ = some (.int .u32 ((out.getD k 0 : Nat) : Int)) := by
  rw [h.cell (off + k) (by simp; omega), win_getD P N out S off k hP hN hk]
theorem Row.win_set {w : World} {g off k : Nat} {P N out S : List Nat} (h : Row w g (P ++ (N ++ out.drop k) ++ S)) (hP : P.length = off) (hN : N.length = k) (hk : k < out.length) (d : Nat) (v : Value) (hv : v = .int .u32 (d : Int)) : Row (w.setCell ⟨g, off + k, none⟩ v) g (P ++ ((N ++ [d]) ++ out.drop (k + 1)) ++ S) := by
  subst hv
  have := h.set (off + k) d (by simp; omega)
  rwa [Go.Proofs.YtcmhfeeocehlaaaGreatDoor.win_set P N out S off k d hP hN hk] at this

end Go.Proofs.YtcmhfeeocehlaaaGreatDoor
namespace Go.Proofs.YtcmhfeeocehlaaaGreatDoor
set_option linter.unusedSimpArgs false
set_option linter.unusedVariables false
open Go.RowKit

/-- what trim answers -/
def TrimPost (w : World) (a : Option Addr) (l : List Nat) (e : Ending) (w' : World) : Prop :=
  ∃ a', e = .returned (.slice a' (tr l).length (tr l).length) ∧ w' = w ∧ (tr l = [] ∧ a' = none ∨ tr l ≠ [] ∧ a' = a)

set_option maxHeartbeats 400000 in
theorem trim_raw (a : Option Addr) (n c : Nat) (l : List Nat) (w : World) (h : SL w a n c l) :
    Calls Tryz.prog 101 #[.slice a n c] w (TrimPost w a l) := by
  obtain ⟨hlen, hcap, hbig, hcm, hlim, hnil, b, off, ha, hcell⟩ := h
  have hle := tl_le l n
  go_enter Tryz.func101, Tryz.ntmps101
  go_wp2
  go_step3
  go_wp2
  go_step3
  go_wp2
  go_loop [3] (fun i => ∃ k : Nat, k ≤ n ∧ i = .int .i64 k ∧ tl l k = tl l n) (fun i => (intOf i).toNat)
  case atStart => exact ⟨n, Nat.le_refl _, rfl, rfl⟩
  case round =>
    obtain ⟨k, hk, rfl, he⟩ := hrel
    have HE : Hid (tl l k = tl l n) := he
    clear he
    by_cases h0 : k = 0
    · subst h0
      go_wp2
      go_ret
      have e0 : tr l = [] := by
        have := HE.out
        unfold tr; rw [hlen, ← this]; simp [tl]
      exact ⟨none, by rw [e0]; rfl, rfl, .inl ⟨e0, rfl⟩⟩
    · obtain ⟨m, rfl⟩ : ∃ m, k = m + 1 := ⟨k - 1, by omega⟩
      obtain rfl := (ha (by omega)).1
      have hcm := hcell m (by omega)
      clear hcell ha hnil
      go_wp2
      · go_round
        case rel =>
          refine ⟨m, by omega, rfl, ?_⟩
          have hz : (((l[m]?.getD 0 : Nat) : Int) == 0) = true := by assumption
          rw [← HE.out, tl_zero l m (by rw [List.getD_eq_getElem?_getD]; have := eq_of_beq hz; omega)]
        case measure => simp [intOf]
      · go_ret
        have hz : (((l[m]?.getD 0 : Nat) : Int) == 0) = false := by assumption
        have e := HE.out
        have e1 : tl l (m + 1) = m + 1 := by
          unfold tl; rw [if_neg]; intro h; rw [List.getD_eq_getElem?_getD] at h; rw [h] at hz; simp at hz
        have e2 : (tr l).length = m + 1 := by rw [tr_length, hlen, ← e, e1]
        exact ⟨_, by rw [e2]; rfl, rfl, .inr ⟨by intro h; rw [h] at e2; simp at e2, rfl⟩⟩

/-- limbs trimmed in their place -/
theorem SL.trim {w : World} {a a' : Option Addr} {n c : Nat} {l : List Nat} (h : SL w a n c l) (ha : tr l = [] ∧ a' = none ∨ tr l ≠ [] ∧ a' = a) : SL w a' (tr l).length (tr l).length (tr l) := by
  rcases ha with ⟨e, rfl⟩ | ⟨e, rfl⟩
  · rw [e]; exact SL.nil' w
  · obtain ⟨h1, h2, h3, h3', h4, h5, b, off, ha, hc⟩ := h
    have hle : (tr l).length ≤ n := by rw [tr_length, h1]; exact tl_le l n
    have hpos : 0 < (tr l).length := List.length_pos_iff.2 e
    refine ⟨rfl, Nat.le_refl _, by omega, by omega, lims_tr h4, fun h => absurd (h5 h) (by omega), b, off, fun _ => ha (by omega), fun j hj => ?_⟩
    rw [hc j (by omega)]
    unfold tr at hj ⊢
    rw [getD_take]
    simp at hj; omega
theorem OW.trim {w : World} {B : Nat} {a a' : Option Addr} {n c : Nat} {l : List Nat} (h : OW w B a n c l) (ha : tr l = [] ∧ a' = none ∨ tr l ≠ [] ∧ a' = a) : OW w B a' (tr l).length (tr l).length (tr l) := by
  refine ⟨h.sl.trim ha, fun hp => ?_⟩
  rcases ha with ⟨e, rfl⟩ | ⟨e, rfl⟩
  · rw [e] at hp; simp at hp
  · have hle : (tr l).length ≤ n := by rw [tr_length, h.sl.len]; exact tl_le l n
    obtain ⟨g, off, L, e, hb, hr, hl⟩ := h.own (by omega)
    exact ⟨g, off, L, e, hb, hr, by omega⟩

/-- what made answers: limbs trimmed, a sign where there are any -/
def MadePost (w : World) (a : Option Addr) (s : Bool) (l : List Nat) (e : Ending) (w' : World) : Prop :=
  ∃ a', e = .returned (.agg #[.bool (s && !decide (tr l = [])), .slice a' (tr l).length (tr l).length]) ∧ w.grownBy w' none ∧ (tr l = [] ∧ a' = none ∨ tr l ≠ [] ∧ a' = a)

set_option maxHeartbeats 400000 in
theorem made_raw (s : Bool) (a : Option Addr) (n c : Nat) (l : List Nat) (w : World) (h : SL w a n c l) :
    Calls Tryz.prog 98 #[.bool s, .slice a n c] w (MadePost w a s l) := by
  have hd : decide (0 < (tr l).length) = decide (tr l ≠ []) := by
    cases h : tr l <;> simp
  cases s
  all_goals
    go_enter Tryz.func98, Tryz.ntmps98
    go_wp2_with (go_at_call 101; refine (trim_raw a n c l _ (h.grown (gb_alloc (gb_refl _ _) _))).mono ?_; rintro e w' ⟨a', rfl, rfl, ha⟩)
  · refine bodyPost_ret (v := .agg #[.bool false, .slice a' (tr l).length (tr l).length]) (by simp [results, Tryz.results98, go_sem]) rfl ⟨a', by simp, ?_, ha⟩
    repeat (first | exact gb_refl _ _ | apply gb_alloc | apply gb_drew)
  · refine bodyPost_ret (v := .agg #[.bool (!decide (tr l = [])), .slice a' (tr l).length (tr l).length]) (by simp [results, Tryz.results98, go_sem]) rfl ⟨a', by simp, ?_, ha⟩
    repeat (first | exact gb_refl _ _ | apply gb_alloc | apply gb_drew)
end Go.Proofs.YtcmhfeeocehlaaaGreatDoor
namespace Go.Proofs.YtcmhfeeocehlaaaGreatDoor
set_option linter.unusedSimpArgs false
set_option linter.unusedVariables false
open Go.RowKit

/-- what Clone answers: the same limbs in new memory -/
def ClonePost (w : World) (l : List Nat) (e : Ending) (w' : World) : Prop :=
  ∃ a c, e = .returned (.slice a l.length c) ∧ OW w' w.heap.size a l.length c l ∧ w.grownBy w' none

set_option maxHeartbeats 400000 in
theorem clone_nil (w : World) : Calls Tryz.prog 100 #[.slice none 0 0] w (ClonePost w []) := by
  have hnil := fun w => Lib.run_eql_slice_nil (P := Tryz.prog) w 33 84 none 0 0 0 0 Tryz.underlying33
  go_enter Tryz.func100, Tryz.ntmps100
  go_wp2
  go_ret
  exact ⟨none, 0, rfl, OW.nil' _ _, gb_refl _ _⟩

set_option maxHeartbeats 400000 in
theorem clone_some (ad : Addr) (n c : Nat) (l : List Nat) (w : World) (hl : l.length = n) (hp : 0 < n) (hb : n ≤ 35184372088832) (hlim : Lims l)
    (hcell : ∀ j u, (cl l)[j]? = some u → w.cell? (ad.add j) = some u) : Calls Tryz.prog 100 #[.slice (some ad) n c] w (ClonePost w l) := by
  obtain ⟨i0, hi, hz0, hz1, hz2⟩ := info_parts u32_info
  have hnil := fun w => Lib.run_eql_slice_nil (P := Tryz.prog) w 33 84 (some ad) n c 0 0 Tryz.underlying33
  go_enter Tryz.func100, Tryz.ntmps100
  have hown : (w.alloc (.cells #[] 84)).ownsRow w.heap.size 84 1 (.slice (some ⟨w.heap.size, 0, none⟩) 0 0) 0 [] := World.ownsRow_made w #[] 0 (Nat.le_refl _) (by unfold maxLen; omega) rfl
  have hcell' : ∀ j u, (cl l)[j]? = some u → (w.alloc (.cells #[] 84)).cell? (ad.add j) = some u := fun j u h => (gb_alloc (gb_refl w none) _).cell (hcell j u h) (by simp)
  go_wp2_with (at_builtin; refine wpList_append_lies _ rfl (.tmp 5) (.tmp 6) 33 rfl w.heap.size 84 i0 (.int .u32 0) 1 4 Tryz.underlying33 hi hz0 hz1 hz2 rfl (by decide) _ 0 [] rfl hown ad n c (cl l) rfl (by simp [cl, hl]) hcell' (cl_one l) hp (by unfold maxLen; omega) (by omega) (by simp) (w.heap.size + 1) (by simp) ?_; intro g cap w1 hown1 hgrow hat hlt)
  go_ret
  simp only [List.nil_append, Nat.zero_add] at hown1
  obtain ⟨hr, hbg, _, hcap, hcm⟩ := Row.of_owns hown1
  subst hl
  refine ⟨_, cap, rfl, OW.of_row (L := []) (by simpa using hr) hbg rfl hcap hb hcm hlim, ?_⟩
  refine gb_then (gb_alloc (gb_refl w none) _) hgrow ?_
  intro i e
  cases e
  exact Nat.le_refl _

theorem clone_raw (a : Option Addr) (n c : Nat) (l : List Nat) (w : World) (h : SL w a n c l) (hz : l = [] → a = none) :
    Calls Tryz.prog 100 #[.slice a n c] w (ClonePost w l) := by
  obtain ⟨hlen, hcap, hbig, hcm, hlim, hnil, b, off, ha, hcell⟩ := h
  by_cases h0 : n = 0
  · have hl : l = [] := List.length_eq_zero_iff.1 (by omega)
    obtain rfl := hz hl
    obtain ⟨rfl, rfl⟩ := hnil rfl
    subst hl
    exact clone_nil w
  · obtain ⟨rfl, _⟩ := ha (by omega)
    refine clone_some ⟨b, off, none⟩ n c l w hlen (by omega) hbig hlim (fun j u hu => ?_)
    have hj : j < l.length := by
      have := (List.getElem?_eq_some_iff.1 hu).1
      simpa [cl] using this
    rw [cl_get l j hj] at hu
    have hadd : (⟨b, off, none⟩ : Addr).add j = ⟨b, off + j, none⟩ := by simp [Addr.add]
    rw [hadd, hcell j (by omega)]
    exact hu
end Go.Proofs.YtcmhfeeocehlaaaGreatDoor
namespace Go.Proofs.YtcmhfeeocehlaaaGreatDoor
set_option linter.unusedSimpArgs false
set_option linter.unusedVariables false
open Go.RowKit

/-- -1, 0, 1 -/
def sgn (z : Int) : Int := if z < 0 then -1 else if z = 0 then 0 else 1

theorem drop_step {x y : List Nat} {m : Nat} (hx : m < x.length) (hy : m < y.length) (h : x.getD m 0 = y.getD m 0) (hd : x.drop (m + 1) = y.drop (m + 1)) : x.drop m = y.drop m := by
  rw [List.drop_eq_getElem_cons hx, List.drop_eq_getElem_cons hy, hd]
  simp only [List.getD_eq_getElem?_getD, List.getElem?_eq_getElem hx, List.getElem?_eq_getElem hy, Option.getD_some] at h
  rw [h]

def CmpPost (w : World) (x y : List Nat) (e : Ending) (w' : World) : Prop := e = .returned (.int .i64 (sgn ((val x : Int) - val y))) ∧ w.grownBy w' none

end Go.Proofs.YtcmhfeeocehlaaaGreatDoor
namespace Go.Proofs.YtcmhfeeocehlaaaGreatDoor
set_option linter.unusedSimpArgs false
set_option linter.unusedVariables false
open Go.RowKit

/-- what addInto leaves: the window of block g from off on holds the sum -/
def AddPost (w : World) (g off : Nat) (P out S y : List Nat) (e : Ending) (w' : World) : Prop :=
  ∃ N c, e = .returned (.tuple #[]) ∧ Row w' g (P ++ N ++ S) ∧ N.length = out.length ∧ Lims N ∧ c ≤ 1 ∧ val N + B32 ^ out.length * c = val out + val y ∧ w.grownBy w' (some g)

end Go.Proofs.YtcmhfeeocehlaaaGreatDoor
namespace Go.Proofs.YtcmhfeeocehlaaaGreatDoor
set_option linter.unusedSimpArgs false
set_option linter.unusedVariables false

theorem borrow_step {N : List Nat} {k lack lack' d dg p q X Y : Nat} (hk : N.length = k) (h : val N + dg * Y = X + B32 ^ k * lack) (e : d + (lack + dg * q) = p + B32 * lack') :
    val (N ++ [d]) + dg * (Y + B32 ^ k * q) = (X + B32 ^ k * p) + B32 ^ (k + 1) * lack' := by
  subst hk
  rw [val_snoc, Nat.pow_succ]
  have : B32 ^ N.length * (d + (lack + dg * q)) = B32 ^ N.length * (p + B32 * lack') := by rw [e]
  grind

/-- a limb of a product row: N so far, carry c; the next limbs: o (there already), f times q -/
theorem mul_step {N : List Nat} {k c c' d f o q X Y : Nat} (hk : N.length = k) (h : val N + B32 ^ k * c = X + f * Y) (e : c + (f * q + o) = d + B32 * c') :
    val (N ++ [d]) + B32 ^ (k + 1) * c' = (X + B32 ^ k * o) + f * (Y + B32 ^ k * q) := by
  subst hk
  rw [val_snoc, Nat.pow_succ]
  have : B32 ^ N.length * (c + (f * q + o)) = B32 ^ N.length * (d + B32 * c') := by rw [e]
  grind

theorem mul_lt {a b : Nat} (ha : a ≤ 4294967295) (hb : b ≤ 4294967295) : a * b ≤ 18446744065119617025 := by
  have := Nat.mul_le_mul ha hb
  omega

/-- a row of a product is done -/
theorem row_done {P N : List Nat} {i c f V Y X mid : Nat} (hP : P.length = i) (hN : val N + B32 ^ N.length * c = mid + f * Y) (hA : val P + B32 ^ i * mid = X * Y) (hV : V = X + B32 ^ i * f) :
    val (P ++ N ++ [c]) = V * Y := by
  subst hV; subst hP
  rw [val_snoc, val_append, List.length_append, Nat.pow_add]
  have : B32 ^ P.length * (val N + B32 ^ N.length * c) = B32 ^ P.length * (mid + f * Y) := by rw [hN]
  grind

theorem val_replicate_zero (n : Nat) : val (List.replicate n 0) = 0 := by
  induction n with
  | zero => rfl
  | succ n ih => simp [List.replicate_succ, val, ih]
theorem lims_replicate (n : Nat) : Lims (List.replicate n 0) := by
  intro x hx
  have := List.eq_of_mem_replicate hx
  omega
theorem lims_drop {l : List Nat} (h : Lims l) (k : Nat) : Lims (l.drop k) := fun x hx => h x (List.mem_of_mem_drop hx)
end Go.Proofs.YtcmhfeeocehlaaaGreatDoor
namespace Go.Proofs.YtcmhfeeocehlaaaGreatDoor
set_option linter.unusedSimpArgs false
set_option linter.unusedVariables false
open Go.RowKit

def TakePost (w : World) (g off dg : Nat) (P out S y : List Nat) (e : Ending) (w' : World) : Prop :=
  ∃ N lack, e = .returned (.int .u64 ((lack : Nat) : Int)) ∧ Row w' g (P ++ N ++ S) ∧ N.length = out.length ∧ Lims N ∧ lack ≤ 4294967295 ∧ val N + dg * val y = val out + B32 ^ out.length * lack ∧ w.grownBy w' (some g)

end Go.Proofs.YtcmhfeeocehlaaaGreatDoor
