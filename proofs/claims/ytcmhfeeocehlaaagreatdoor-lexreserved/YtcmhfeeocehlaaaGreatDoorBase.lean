/-
  The words in which the contracts of this seat's functions are said: what a slice of limbs reads as, what has become of memory.
-/
import Derived.Test.YtcmhfeeocehlaaaGreatDoorRows
import Derived.Test.YtcmhfeeocehlaaaGreatDoorMath
import Derived.WalkKit
import Derived.WalkSpells
import Derived.WalkLawsBesides
import Derived.WalkMore
import Derived.Deep.RegionHeld3
import Derived.Deep.AppendLies
import Derived.Deep.DrawnRows
import Derived.Deep.QuietTactic
import Derived.BigQuiet
import Derived.Laws.CopyOwn
namespace Go.Proofs.YtcmhfeeocehlaaaGreatDoor
set_option linter.unusedSimpArgs false
set_option linter.unusedVariables false
open Go.RowKit

theorem ret_int1 {k : IntKind} {a b : Int} (h : a = b) : Ending.returned (.int k a) = .returned (.int k b) := by rw [h]
theorem ret_bool1 {a b : Bool} (h : a = b) : Ending.returned (.bool a) = .returned (.bool b) := by rw [h]
/-- limbs as cells -/
def cl (l : List Nat) : List Value := l.map fun x : Nat => Value.int .u32 (x : Int)
theorem cl_length (l : List Nat) : (cl l).length = l.length := by simp [cl]
theorem cl_append (l r : List Nat) : cl (l ++ r) = cl l ++ cl r := by simp [cl]
theorem cl_get (l : List Nat) (i : Nat) (h : i < l.length) : (cl l)[i]? = some (.int .u32 ((l.getD i 0 : Nat) : Int)) := by
  simp [cl, List.getD_eq_getElem?_getD, List.getElem?_eq_getElem h]
theorem cl_one (l : List Nat) : ∀ v ∈ cl l, v.oneCell' = true := by
  intro v hv; simp only [cl, List.mem_map] at hv; obtain ⟨x, _, rfl⟩ := hv; rfl
theorem cl_take (l : List Nat) (k : Nat) : (cl l).take k = cl (l.take k) := by simp [cl, List.map_take]
theorem cl_drop (l : List Nat) (k : Nat) : (cl l).drop k = cl (l.drop k) := by simp [cl, List.map_drop]
theorem cl_replicate (n : Nat) : cl (List.replicate n 0) = List.replicate n (Value.int .u32 0) := by simp [cl]

/-- block g holds the limbs L from its head on (and perhaps more behind them), and may be written -/
def Row (w : World) (g : Nat) (L : List Nat) : Prop := ∃ sp : List Value, w.heap[g]? = some (.cells (cl L ++ sp).toArray 84 (0, 0))

theorem Row.lt {w : World} {g : Nat} {L : List Nat} (h : Row w g L) : g < w.heap.size := by
  obtain ⟨sp, h⟩ := h; exact (Array.getElem?_eq_some_iff.1 h).1
theorem Row.cell {w : World} {g : Nat} {L : List Nat} (h : Row w g L) (i : Nat) (hi : i < L.length) : w.cell? ⟨g, i, none⟩ = some (.int .u32 ((L.getD i 0 : Nat) : Int)) := by
  obtain ⟨sp, h⟩ := h
  have h2 : (cl L ++ sp)[i]? = some (.int .u32 ((L.getD i 0 : Nat) : Int)) := by
    rw [List.getElem?_append_left (by simpa [cl] using hi), cl_get L i hi]
  simp only [World.cell?, h]
  simpa using h2
theorem Row.frozen {w : World} {g : Nat} {L : List Nat} (h : Row w g L) (i : Nat) : w.frozen? ⟨g, i, none⟩ = false := by
  obtain ⟨sp, h⟩ := h
  simp [World.frozen?, h]
theorem Row.set {w : World} {g : Nat} {L : List Nat} (h : Row w g L) (i x : Nat) (hi : i < L.length) : Row (w.setCell ⟨g, i, none⟩ (.int .u32 (x : Int))) g (L.set i x) := by
  obtain ⟨sp, h⟩ := h
  refine ⟨sp, ?_⟩
  have hlt := (Array.getElem?_eq_some_iff.1 h).1
  simp only [World.setCell, Array.getElem?_modify, h]
  simp only [if_true, Option.map_some, Option.some.injEq, Obj.cells.injEq, and_true, Option.isSome_none, Bool.false_eq_true, if_false]
  rw [List.setIfInBounds_toArray, List.set_append_left _ _ (by simpa [cl] using hi)]
  simp [cl, List.map_set]
theorem Row.kept {w w' : World} {g : Nat} {L : List Nat} {r : Option Nat} (h : Row w g L) (hg : w.grownBy w' r) (hr : r ≠ some g) : Row w' g L := by
  have hlt := h.lt
  obtain ⟨sp, h⟩ := h
  exact ⟨sp, by rw [hg.block g hlt (fun e => hr e.symm)]; exact h⟩
theorem Row.made (w : World) (n : Nat) : Row (w.alloc (.cells (madeCells #[.int .u32 0] n) 84)) w.heap.size (List.replicate n 0) := by
  refine ⟨[], ?_⟩
  rw [heap_alloc_new, List.append_nil, cl_replicate, ← toList_madeCells_one]
theorem Row.drew {w : World} {g : Nat} {L : List Nat} (h : Row w g L) : Row w.drew g L := h
theorem Row.alloc {w : World} {g : Nat} {L : List Nat} (h : Row w g L) (o : Obj) : Row (w.alloc o) g L := by
  have hlt := h.lt
  obtain ⟨sp, h⟩ := h
  exact ⟨sp, by rw [Below.heap_alloc _ _ _ hlt]; exact h⟩
theorem Row.pre {w : World} {g : Nat} {L M : List Nat} (h : Row w g (L ++ M)) : Row w g L := by
  obtain ⟨sp, h⟩ := h; exact ⟨cl M ++ sp, by rw [h, cl_append, List.append_assoc]⟩
theorem Row.of_owns {w : World} {base g n cap : Nat} {L : List Nat} (h : w.ownsRow base 84 1 (.slice (some ⟨g, 0, none⟩) n cap) n (cl L)) : Row w g L ∧ base ≤ g ∧ L.length = n ∧ n ≤ cap ∧ cap ≤ 9223372036854775807 := by
  obtain ⟨hl, h⟩ := h
  rcases h with ⟨h, _⟩ | ⟨g', cap', cur, hv, hb, hg, hn, hm, hs, ht⟩
  · cases h
  · simp only [Value.slice.injEq, Option.some.injEq, Addr.mk.injEq, and_true, true_and] at hv
    obtain ⟨rfl, rfl⟩ := hv
    refine ⟨⟨cur.toList.drop (n * 1), ?_⟩, hb, by simpa [cl] using hl, hn, hm⟩
    rw [hg, ← ht, List.take_append_drop]

theorem gb_refl (w : World) (r : Option Nat) : w.grownBy w r := ⟨rfl, rfl, rfl, Nat.le_refl _, fun _ _ _ => rfl⟩
theorem gb_trans {a b c : World} {r s t : Option Nat} (h : a.grownBy b r) (k : b.grownBy c s) (hr : ∀ i, r = some i → i < a.heap.size → t = some i) (hs : ∀ i, s = some i → i < a.heap.size → t = some i) : a.grownBy c t :=
  ⟨k.os.trans h.os, k.tape.trans h.tape, k.output.trans h.output, Nat.le_trans h.size k.size, fun i hi hn =>
    (k.block i (Nat.lt_of_lt_of_le hi h.size) (fun e => hn (hs i e.symm hi).symm)).trans (h.block i hi (fun e => hn (hr i e.symm hi).symm))⟩
/-- two steps that write nothing old -/
theorem gb_then {a b c : World} {s : Option Nat} (h : a.grownBy b none) (k : b.grownBy c s) (hs : ∀ i, s = some i → a.heap.size ≤ i) : a.grownBy c none :=
  gb_trans h k (fun i e => by cases e) (fun i e hi => absurd (hs i e) (by omega))
/-- two steps that write the same row -/
theorem gb_same {a b c : World} {s : Option Nat} (h : a.grownBy b s) (k : b.grownBy c s) : a.grownBy c s :=
  gb_trans h k (fun i e _ => e) (fun i e _ => e)
theorem gb_set {a w : World} {r : Option Nat} (h : a.grownBy w r) (p : Addr) (v : Value) (hp : r = some p.block ∨ a.heap.size ≤ p.block) : a.grownBy (w.setCell p v) r :=
  gb_trans h (s := some p.block) ⟨rfl, rfl, rfl, by simp, fun k hk hn => Below.heap_setCell _ _ _ _ (fun e => hn (by rw [e]))⟩ (fun _ e _ => e) (fun i e hi => by
    rcases hp with hp | hp
    · rw [hp]; exact e
    · have : p.block = i := Option.some.inj e
      omega)
theorem gb_drew {a w : World} {r : Option Nat} (h : a.grownBy w r) : a.grownBy w.drew r := ⟨h.os, h.tape, h.output, h.size, h.block⟩
theorem gb_drewN {a w : World} {r : Option Nat} (h : a.grownBy w r) (n : Nat) : a.grownBy (w.drewN n) r := ⟨h.os, h.tape, h.output, h.size, h.block⟩
theorem gb_alloc {a w : World} {r : Option Nat} (h : a.grownBy w r) (o : Obj) : a.grownBy (w.alloc o) r :=
  gb_trans h (World.grownBy_alloc w o none) (fun _ e _ => e) (fun _ e => by cases e)
theorem gb_none {a w : World} (r : Option Nat) (h : a.grownBy w none) : a.grownBy w r := ⟨h.os, h.tape, h.output, h.size, fun k hk _ => h.block k hk (by simp)⟩
theorem gb_below {w w' : World} (h : w.grownBy w' none) : Below w.heap.size w w' := ⟨h.os, h.tape, h.output, h.size, fun k hk => h.block k hk (by simp)⟩
theorem below_gb {w w' : World} (h : Below w.heap.size w w') : w.grownBy w' none := ⟨h.os, h.tape, h.output, h.size, fun k hk _ => h.block k hk⟩
theorem gb_cell {w w' : World} {r : Option Nat} (h : w.grownBy w' r) {b o : Nat} {v : Value} (hc : w.cell? ⟨b, o, none⟩ = some v) (hr : r ≠ some b) : w'.cell? ⟨b, o, none⟩ = some v := h.cell hc (fun e => hr e.symm)

/-- A slice (address a, length n, capacity c) reads as the limbs l in the world w. -/
structure SL (w : World) (a : Option Addr) (n c : Nat) (l : List Nat) : Prop where
  len : l.length = n
  cap : n ≤ c
  big : n ≤ 35184372088832
  capm : c ≤ 9223372036854775807
  lim : Lims l
  nil : a = none → n = 0 ∧ c = 0
  at' : ∃ b off, (0 < n → a = some ⟨b, off, none⟩ ∧ b < w.heap.size) ∧ ∀ j, j < n → w.cell? ⟨b, off + j, none⟩ = some (.int .u32 ((l.getD j 0 : Nat) : Int))

/-- it does not lie in block g -/
def Off (a : Option Addr) (n g : Nat) : Prop := 0 < n → ∀ b off s, a = some ⟨b, off, s⟩ → b ≠ g

theorem SL.kept {w w' : World} {a : Option Addr} {n c : Nat} {l : List Nat} {r : Option Nat} (h : SL w a n c l) (hg : w.grownBy w' r) (hr : ∀ g, r = some g → Off a n g) : SL w' a n c l := by
  obtain ⟨h1, h2, h3, h3', h4, h5, b, off, ha, hc⟩ := h
  refine ⟨h1, h2, h3, h3', h4, h5, b, off, fun h => ⟨(ha h).1, Nat.lt_of_lt_of_le (ha h).2 hg.size⟩, fun j hj => gb_cell hg (hc j hj) ?_⟩
  intro e
  exact hr b e (by omega) b off none (ha (by omega)).1 rfl
theorem SL.grown {w w' : World} {a : Option Addr} {n c : Nat} {l : List Nat} (h : SL w a n c l) (hg : w.grownBy w' none) : SL w' a n c l := h.kept hg (fun _ e => by cases e)
theorem SL.nil' (w : World) : SL w none 0 0 [] := ⟨rfl, Nat.le_refl _, by omega, by omega, (by intro x hx; cases hx), fun _ => ⟨rfl, rfl⟩, 0, 0, fun h => by omega, fun j h => by omega⟩

/-- A slice that the call made: its limbs lie in a block from B on, at place off, and may be written. -/
structure OW (w : World) (B : Nat) (a : Option Addr) (n c : Nat) (l : List Nat) : Prop where
  sl : SL w a n c l
  own : 0 < n → ∃ g off L, a = some ⟨g, off, none⟩ ∧ B ≤ g ∧ Row w g L ∧ off + n ≤ L.length

theorem OW.nil' (w : World) (B : Nat) : OW w B none 0 0 [] := ⟨SL.nil' w, fun h => by omega⟩
theorem OW.kept {w w' : World} {B : Nat} {a : Option Addr} {n c : Nat} {l : List Nat} {r : Option Nat} (h : OW w B a n c l) (hg : w.grownBy w' r) (hr : ∀ g, r = some g → Off a n g) : OW w' B a n c l :=
  ⟨h.sl.kept hg hr, fun hn => by
    obtain ⟨g, off, L, e, hb, hrow, hl⟩ := h.own hn
    exact ⟨g, off, L, e, hb, hrow.kept hg (fun e' => hr g e' hn g off none e rfl), hl⟩⟩
theorem OW.grown {w w' : World} {B : Nat} {a : Option Addr} {n c : Nat} {l : List Nat} (h : OW w B a n c l) (hg : w.grownBy w' none) : OW w' B a n c l := h.kept hg (fun _ e => by cases e)
theorem OW.mono {w : World} {B B' : Nat} {a : Option Addr} {n c : Nat} {l : List Nat} (h : OW w B a n c l) (hB : B' ≤ B) : OW w B' a n c l :=
  ⟨h.sl, fun hn => by obtain ⟨g, off, L, e, hb, r⟩ := h.own hn; exact ⟨g, off, L, e, by omega, r⟩⟩
/-- the head of a row that is the call's own -/
theorem OW.of_row {w : World} {B g n c : Nat} {l L : List Nat} (hr : Row w g (l ++ L)) (hB : B ≤ g) (hn : l.length = n) (hc : n ≤ c) (hb : n ≤ 35184372088832) (hcm : c ≤ 9223372036854775807) (hl : Lims l) : OW w B (some ⟨g, 0, none⟩) n c l := by
  refine ⟨⟨hn, hc, hb, hcm, hl, (by simp), g, 0, fun _ => ⟨rfl, hr.lt⟩, fun j hj => ?_⟩, fun _ => ⟨g, 0, l ++ L, rfl, hB, hr, by simp; omega⟩⟩
  rw [Nat.zero_add, (hr.pre).cell j (by omega)]
/-- what lies below B does not lie in a block from B on -/
theorem Off.of_lt {w : World} {a : Option Addr} {n c : Nat} {l : List Nat} {g : Nat} (h : SL w a n c l) (hg : w.heap.size ≤ g) : Off a n g := by
  intro hn b off s e
  obtain ⟨b', off', ha, _⟩ := h.at'
  obtain ⟨ha, hb⟩ := ha hn
  rw [ha] at e
  simp only [Option.some.injEq, Addr.mk.injEq] at e
  omega

theorem u32_info : (Tryz.prog.info? 84).map (fun i => (i.zero, i.size, i.bytes)) = some (some (.int .u32 0), 1, 4) := by kernel_rfl
theorem u32_size : (Tryz.prog.info? 84).map (·.size) = some 1 := by kernel_rfl

/-- make([]uint32, n), whatever n of kind int the frame holds -/
theorem make_row (n : Nat) (hn : n ≤ 70368744177664) (w : World) :
    (Instr.makeSlice 33 (.int .i64 (n : Int)) (.int .i64 (n : Int))).run Tryz.prog w = .ok (.slice (some ⟨w.heap.size, 0, none⟩) n n) (w.alloc (.cells (madeCells #[.int .u32 0] n) 84)) := by
  obtain ⟨i0, hi, hz0, hz1, hz2⟩ := info_parts u32_info
  have h := run_make (P := Tryz.prog) w 33 84 i0 (.int .u32 0) Tryz.underlying33 hi hz0 .i64 .i64 (n : Int) (n : Int) (by omega) (Int.le_refl _) (by rw [hz2]; omega) (by omega)
  rw [Int.toNat_natCast, hz1] at h
  simpa [Value.cells] using h


/-- a window of a row, written up to place k -/
theorem win_getD (P N out S : List Nat) (off k : Nat) (hP : P.length = off) (hN : N.length = k) (hk : k < out.length) : (P ++ (N ++ out.drop k) ++ S).getD (off + k) 0 = out.getD k 0 := by
  subst hP; subst hN
  simp only [List.getD_eq_getElem?_getD]
  rw [List.getElem?_append_left (by simp; omega), List.getElem?_append_right (by omega), Nat.add_sub_cancel_left, List.getElem?_append_right (by omega), Nat.sub_self, List.getElem?_drop, Nat.add_zero]
theorem win_set (P N out S : List Nat) (off k d : Nat) (hP : P.length = off) (hN : N.length = k) (hk : k < out.length) : (P ++ (N ++ out.drop k) ++ S).set (off + k) d = P ++ ((N ++ [d]) ++ out.drop (k + 1)) ++ S := by
  subst hP; subst hN
  rw [List.set_append_left _ _ (by simp; omega), List.set_append_right _ _ (by omega), Nat.add_sub_cancel_left, List.set_append_right _ _ (by omega), Nat.sub_self, List.drop_eq_getElem_cons hk, List.set_cons_zero]
  simp only [List.append_assoc, List.cons_append, List.nil_append]
theorem Row.win_cell {w : World} {g off k : Nat} {P N out S : List Nat} (h : Row w g (P ++ (N ++ out.drop k) ++ S)) (hP : P.length = off) (hN : N.length = k) (hk : k < out.length) : w.cell? ⟨g, off + k, none⟩ = some (.int .u32 ((out.getD k 0 : Nat) : Int)) := by
  rw [h.cell (off + k) (by simp; omega), win_getD P N out S off k hP hN hk]
theorem Row.win_set {w : World} {g off k : Nat} {P N out S : List Nat} (h : Row w g (P ++ (N ++ out.drop k) ++ S)) (hP : P.length = off) (hN : N.length = k) (hk : k < out.length) (d : Nat) (v : Value) (hv : v = .int .u32 (d : Int)) : Row (w.setCell ⟨g, off + k, none⟩ v) g (P ++ ((N ++ [d]) ++ out.drop (k + 1)) ++ S) := by
  subst hv
  have := h.set (off + k) d (by simp; omega)
  rwa [Go.Proofs.YtcmhfeeocehlaaaGreatDoor.win_set P N out S off k d hP hN hk] at this

end Go.Proofs.YtcmhfeeocehlaaaGreatDoor
