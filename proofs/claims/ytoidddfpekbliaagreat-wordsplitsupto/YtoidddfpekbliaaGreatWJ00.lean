/-
  The words in which the contracts of this seat's functions are said: bytes in memory, what has become of memory.
-/
import Derived.Test.YtoidddfpekbliaaGreatRows
import Derived.WalkKit
import Derived.WalkSpells
import Derived.WalkLawsBesides
import Derived.WalkMore
import Derived.Deep.RegionHeld3
import Derived.Deep.AppendLies
import Derived.Deep.DrawnRows
import Derived.Deep.QuietTactic
import Derived.BigQuiet
import Derived.Maps.OwnSet
import Derived.Maps.AppendAt
import Derived.Deep.AppendSrc
import Derived.Lib.ConvBytes
import Derived.Lib.Bytealg
import Derived.Lib.BytesEntry
import Derived.Laws.BytesArg
import Derived.OpenShut
namespace Go.Proofs.YtoidddfpekbliaaGreat
set_option linter.unusedSimpArgs false
set_option linter.unusedVariables false
open Go.RowKit

theorem hid {p : Prop} (h : p) : Hid p := h
theorem ret_int {k : IntKind} {a b : Int} (h : a = b) : Ending.returned (.int k a) = .returned (.int k b) := by rw [h]
theorem ret_bool {a b : Bool} (h : a = b) : Ending.returned (.bool a) = .returned (.bool b) := by rw [h]

/-- bytes as cells -/
def bc (l : List UInt8) : List Value := l.map fun b => Value.int .u8 (b.toNat : Int)
theorem bc_length (l : List UInt8) : (bc l).length = l.length := by simp [bc]
theorem bc_append (l r : List UInt8) : bc (l ++ r) = bc l ++ bc r := by simp [bc]
theorem bc_one (l : List UInt8) : ∀ v ∈ bc l, v.oneCell' = true := by
  intro v hv; simp only [bc, List.mem_map] at hv; obtain ⟨x, _, rfl⟩ := hv; rfl
theorem bc_string (s : ByteArray) : byteCells s = bc s.data.toList := rfl

/-! ### what has become of memory -/

/-- Nothing that was there has turned, but for blocks of F. -/
structure Tn (F : Nat → Prop) (w w' : World) : Prop where
  os : w'.os = w.os
  tape : w'.tape = w.tape
  output : w'.output = w.output
  size : w.heap.size ≤ w'.heap.size
  block : ∀ k, k < w.heap.size → ¬ F k → w'.heap[k]? = w.heap[k]?

/-- nothing old at all -/
def No : Nat → Prop := fun _ => False

theorem Tn.refl (F : Nat → Prop) (w : World) : Tn F w w := ⟨rfl, rfl, rfl, Nat.le_refl _, fun _ _ _ => rfl⟩
theorem Tn.trans {F G H : Nat → Prop} {a b c : World} (h : Tn F a b) (k : Tn G b c) (hF : ∀ i, i < a.heap.size → F i → H i) (hG : ∀ i, i < a.heap.size → G i → H i) : Tn H a c :=
  ⟨k.os.trans h.os, k.tape.trans h.tape, k.output.trans h.output, Nat.le_trans h.size k.size, fun i hi hn =>
    (k.block i (Nat.lt_of_lt_of_le hi h.size) (fun e => hn (hG i hi e))).trans (h.block i hi (fun e => hn (hF i hi e)))⟩
theorem Tn.mono {F H : Nat → Prop} {a b : World} (h : Tn F a b) (hF : ∀ i, i < a.heap.size → F i → H i) : Tn H a b :=
  ⟨h.os, h.tape, h.output, h.size, fun i hi hn => h.block i hi (fun e => hn (hF i hi e))⟩
theorem Tn.any {F : Nat → Prop} {a b : World} (h : Tn No a b) : Tn F a b := h.mono (fun _ _ e => e.elim)
theorem Tn.then {F : Nat → Prop} {a b c : World} (h : Tn F a b) (k : Tn F b c) : Tn F a c := h.trans k (fun _ _ e => e) (fun _ _ e => e)
theorem Tn.thenNo {F : Nat → Prop} {a b c : World} (h : Tn F a b) (k : Tn No b c) : Tn F a c := h.trans k (fun _ _ e => e) (fun _ _ e => e.elim)
theorem Tn.alloc {F : Nat → Prop} {a w : World} (h : Tn F a w) (o : Obj) : Tn F a (w.alloc o) :=
  h.thenNo ⟨rfl, rfl, rfl, by simp, fun k hk _ => Below.heap_alloc _ _ _ hk⟩
theorem Tn.drew {F : Nat → Prop} {a w : World} (h : Tn F a w) : Tn F a w.drew := ⟨h.os, h.tape, h.output, h.size, h.block⟩
theorem Tn.drewN {F : Nat → Prop} {a w : World} (h : Tn F a w) (n : Nat) : Tn F a (w.drewN n) := ⟨h.os, h.tape, h.output, h.size, h.block⟩
theorem Tn.set {F : Nat → Prop} {a w : World} (h : Tn F a w) (p : Addr) (v : Value) (hp : p.block < a.heap.size → F p.block) : Tn F a (w.setCell p v) :=
  h.trans (G := fun k => k = p.block) ⟨rfl, rfl, rfl, by simp, fun k _ hn => Below.heap_setCell _ _ _ _ hn⟩ (fun _ _ e => e) (fun i hi e => by subst e; exact hp hi)
theorem Tn.grown {F : Nat → Prop} {a b c : World} {r : Option Nat} (h : Tn F a b) (k : b.grownBy c r) (hr : ∀ i, r = some i → i < a.heap.size → F i) : Tn F a c :=
  h.trans (G := fun i => r = some i) ⟨k.os, k.tape, k.output, k.size, fun i hi hn => k.block i hi (fun e => hn e.symm)⟩ (fun _ _ e => e) (fun i hi e => hr i e hi)
theorem Tn.of_grown {a b : World} {r : Option Nat} (k : a.grownBy b r) : Tn (fun i => r = some i) a b :=
  ⟨k.os, k.tape, k.output, k.size, fun i hi hn => k.block i hi (fun e => hn e.symm)⟩
theorem Tn.no {a b : World} (h : Tn No a b) : a.grownBy b none := ⟨h.os, h.tape, h.output, h.size, fun k hk _ => h.block k hk (fun e => e)⟩
theorem Tn.below {a b : World} (h : Tn No a b) : Below a.heap.size a b := ⟨h.os, h.tape, h.output, h.size, fun k hk => h.block k hk (fun e => e)⟩
theorem Tn.cell {F : Nat → Prop} {a b : World} (h : Tn F a b) {k o : Nat} (hk : k < a.heap.size) (hn : ¬ F k) : b.cell? ⟨k, o, none⟩ = a.cell? ⟨k, o, none⟩ := World.cell?_of_block (w := a) (h.block k hk hn)
theorem Tn.frozen {F : Nat → Prop} {a b : World} (h : Tn F a b) {k o : Nat} (hk : k < a.heap.size) (hn : ¬ F k) : b.frozen? ⟨k, o, none⟩ = a.frozen? ⟨k, o, none⟩ := World.frozen?_of_block (w := a) (h.block k hk hn)
theorem Tn.old {a b : World} (h : Tn No a b) : (∀ k o, k < a.heap.size → b.cell? ⟨k, o, none⟩ = a.cell? ⟨k, o, none⟩) ∧ (∀ k o, k < a.heap.size → b.frozen? ⟨k, o, none⟩ = a.frozen? ⟨k, o, none⟩) :=
  ⟨fun k o hk => h.cell hk (fun e => e), fun k o hk => h.frozen hk (fun e => e)⟩

/-! ### rows behind slices of the program's own -/

/-- cell j of the row behind the slice v -/
def vc (w : World) (v : Value) (j : Nat) : Option Value := match v with | .slice (some a) _ _ => w.cell? ⟨a.block, j, none⟩ | _ => none

theorem vc_kept {w w' : World} {v : Value} (hk : ∀ g, v.ownBlock = some g → w'.heap[g]? = w.heap[g]?) (j : Nat) : vc w' v j = vc w v j := by
  unfold vc
  split
  · rename_i a n c
    exact World.cell?_of_block (w := w) (a := ⟨a.block, j, none⟩) (hk a.block rfl)
  · rfl

/-- The slice v of n elements, each of 'size' cells: nil, or all of a block's cells from its head on up to its capacity may be written. -/
def RW (w : World) (size : Nat) (v : Value) (n : Nat) : Prop :=
  (v = .slice none 0 0 ∧ n = 0) ∨ ∃ g cap, v = .slice (some ⟨g, 0, none⟩) n cap ∧ g < w.heap.size ∧ n ≤ cap ∧ cap ≤ maxLen ∧
    ∀ j, j < cap * size → (w.cell? ⟨g, j, none⟩).isSome = true ∧ w.frozen? ⟨g, j, none⟩ = false

theorem RW.nil (w : World) (size : Nat) : RW w size (.slice none 0 0) 0 := .inl ⟨rfl, rfl⟩
theorem RW.lt {w : World} {size : Nat} {v : Value} {n : Nat} (h : RW w size v n) : ∀ g, v.ownBlock = some g → g < w.heap.size := by
  rcases h with ⟨rfl, _⟩ | ⟨g, cap, rfl, hg, _⟩
  · intro g h; cases h
  · intro g' h; cases h; exact hg
theorem RW.kept {w w' : World} {size : Nat} {v : Value} {n : Nat} (h : RW w size v n) (hk : ∀ g, v.ownBlock = some g → w'.heap[g]? = w.heap[g]?) : RW w' size v n := by
  rcases h with ⟨rfl, e⟩ | ⟨g, cap, rfl, hg, h1, h2, h3⟩
  · exact .inl ⟨rfl, e⟩
  · have hb := hk g rfl
    refine .inr ⟨g, cap, rfl, ?_, h1, h2, ?_⟩
    · have : w.heap[g]? = some (w.heap[g]) := Array.getElem?_eq_getElem hg
      rw [this] at hb
      exact (Array.getElem?_eq_some_iff.1 hb).1
    · intro j hj
      rw [World.cell?_of_block (w := w) (a := ⟨g, j, none⟩) hb, World.frozen?_of_block (w := w) (a := ⟨g, j, none⟩) hb]
      exact h3 j hj
theorem RW.form {w : World} {size : Nat} {v : Value} {n : Nat} (h : RW w size v n) : ∃ a cap, v = .slice a n cap ∧ n ≤ cap ∧ cap ≤ 9223372036854775807 ∧ (a = none → n = 0 ∧ cap = 0) ∧ (∀ x, a = some x → x = ⟨x.block, 0, none⟩ ∧ x.block < w.heap.size) := by
  rcases h with ⟨rfl, rfl⟩ | ⟨g, cap, rfl, hg, h1, h2, _⟩
  · exact ⟨none, 0, rfl, Nat.le_refl _, by omega, fun _ => ⟨rfl, rfl⟩, fun x h => (by cases h)⟩
  · exact ⟨_, cap, rfl, h1, by unfold maxLen at h2; omega, fun h => (by cases h), fun x h => (by cases h; exact ⟨rfl, hg⟩)⟩
theorem RW.pos {w : World} {size : Nat} {v : Value} {n : Nat} (h : RW w size v n) (hn : 0 < n) : ∃ g cap, v = .slice (some ⟨g, 0, none⟩) n cap ∧ g < w.heap.size ∧ n ≤ cap ∧ cap ≤ 9223372036854775807 ∧ ∀ j, j < n * size → w.frozen? ⟨g, j, none⟩ = false := by
  rcases h with ⟨_, e⟩ | ⟨g, cap, rfl, hg, h1, h2, h3⟩
  · omega
  · exact ⟨g, cap, rfl, hg, h1, by unfold maxLen at h2; omega, fun j hj => (h3 j (Nat.lt_of_lt_of_le hj (Nat.mul_le_mul_right _ h1))).2⟩

theorem setCells_other (g : Nat) : ∀ (vs : List Value) (o : Nat) (u : World) (k : Nat), k ≠ g → (u.setCells g o vs).heap[k]? = u.heap[k]?
  | [], _, _, _, _ => rfl
  | v :: r, o, u, k, hk => by rw [World.setCells, setCells_other g r _ _ _ hk, Below.heap_setCell _ _ _ _ hk]
theorem setCells_rest (g : Nat) : ∀ (vs : List Value) (o : Nat) (u : World), (u.setCells g o vs).os = u.os ∧ (u.setCells g o vs).tape = u.tape ∧ (u.setCells g o vs).output = u.output ∧ (u.setCells g o vs).heap.size = u.heap.size
  | [], _, _ => ⟨rfl, rfl, rfl, rfl⟩
  | v :: r, o, u => by
    rw [World.setCells]
    obtain ⟨a, b, c, d⟩ := setCells_rest g r (o + 1) (u.setCell ⟨g, o, none⟩ v)
    exact ⟨a, b, c, by rw [d]; simp⟩
theorem setCells_grown (g : Nat) (vs : List Value) (o : Nat) (u : World) : u.grownBy (u.setCells g o vs) (some g) := by
  obtain ⟨a, b, c, d⟩ := setCells_rest g vs o u
  exact ⟨a, b, c, by rw [d]; exact Nat.le_refl _, fun k _ hk => setCells_other g vs o u k (fun e => hk (by rw [e]))⟩

theorem addr_add (g j : Nat) : (⟨g, 0, none⟩ : Addr).add j = ⟨g, j, none⟩ := by simp [Addr.add]; omega

/-- 'append(v, x...)': the old cells, then the new ones; in v's own block or in a new one -/
theorem rw_append2 {w : World} {v x : Value} {n m : Nat} {news : List Value} {t tx : TypeId} (ty e : TypeId) (i : TypeInfo) (z : Value) (size bytes : Nat) (ht : Tryz.prog.underlying t = some (.slice e)) (hi : Tryz.prog.info? e = some i) (hz0 : i.zero = some z) (hz1 : i.size = size) (hz2 : i.bytes = bytes)
    (hzs : z.cells.size = size) (h : RW w size v n) (hs : Src Tryz.prog size tx x m news w) (hm : n + m ≤ maxLen) (hb : (n + m) * bytes ≤ 140737488355328) (hsz : 0 < size) :
    ∃ v' w', (Builtin.append_ #[t, tx] ty #[v, x]).run Tryz.prog w = .ok v' w' ∧ RW w' size v' (n + m) ∧ (∀ j, j < n * size → vc w' v' j = vc w v j) ∧ (∀ j, j < news.length → vc w' v' (n * size + j) = news[j]?) ∧
      w.grownBy w' v.ownBlock ∧ ((∃ a c, v = .slice a n c ∧ v' = .slice a (n + m) c) ∨ (v'.ownBlock = some w.heap.size ∧ w.grownBy w' none)) := by
  subst hz1
  subst hz2
  have hmx := hm
  unfold maxLen at hmx
  have hnl := hs.newsLen
  have grow : ∀ (base : Option Addr) (cap : Nat) (olds : List Value), olds.length = n * i.size → cap < n + m → (Builtin.firstCells i.size n (.slice base n cap)).run Tryz.prog w.drew = .ok olds.toArray w.drew → ∀ row,
      ∃ v' w', (Builtin.append_ #[t, tx] ty #[.slice base n cap, x]).run Tryz.prog w = .ok v' w' ∧ RW w' i.size v' (n + m) ∧ (∀ j, j < n * i.size → vc w' v' j = olds[j]?) ∧ (∀ j, j < news.length → vc w' v' (n * i.size + j) = news[j]?) ∧ w.grownBy w' row ∧ v'.ownBlock = some w.heap.size := by
    intro base cap olds hol hc hold row
    have hfit : Builtin.nextslicecap (n + m) cap * i.bytes ≤ 281474976710656 := growslice_fits hc hb
    have hr := run_append_grow_src (P := Tryz.prog) w t tx ty e i z ht hi hz0 base n cap olds hold x m news hs hc (by omega) hfit
    have hge := grownCap_ge w (n + m) cap e
    have hcm := grownCap_le_maxLen w (n + m) cap e hm
    obtain ⟨C, hC⟩ : ∃ C, (olds ++ news).toArray ++ Builtin.zeroCells z.cells (grownCap w (n + m) cap e - (n + m)) = C := ⟨_, rfl⟩
    have hsz : C.size = grownCap w (n + m) cap e * i.size := by
      rw [← hC]
      simp only [Array.size_append, List.size_toArray, List.length_append, size_zeroCells, hol, hnl, hzs, ← Nat.add_mul]
      rw [Nat.add_sub_cancel' hge]
    have hCo : ∀ j, j < n * i.size → C[j]? = olds[j]? := fun j hj => by
      rw [← hC, Array.getElem?_append_left (by simp; omega), List.getElem?_toArray, List.getElem?_append_left (by omega)]
    have hCn : ∀ j, j < news.length → C[n * i.size + j]? = news[j]? := fun j hj => by
      rw [← hC, Array.getElem?_append_left (by simp; omega), List.getElem?_toArray, List.getElem?_append_right (by omega), hol, Nat.add_sub_cancel_left]
    rw [hC] at hr
    have hnew : ∀ j, (w.drew.alloc (.cells C e)).cell? ⟨w.heap.size, j, none⟩ = C[j]? := fun j => World.cell?_alloc_mark w.drew _ _ _ j
    have hh : (w.drew.alloc (.cells C e)).heap[w.heap.size]? = some (.cells C e (0, 0)) := heap_alloc_new w.drew (.cells C e)
    refine ⟨_, _, hr, ?_, fun j hj => (hnew j).trans (hCo j hj), fun j hj => (hnew _).trans (hCn j hj), ⟨rfl, rfl, rfl, by simp, fun k hk _ => Below.heap_alloc w.drew _ k hk⟩, rfl⟩
    refine .inr ⟨w.heap.size, _, rfl, by simp, hge, hcm, fun j hj => ?_⟩
    rw [hnew]
    refine ⟨?_, ?_⟩
    · rw [Array.getElem?_eq_getElem (by rw [hsz]; exact hj)]; rfl
    · simp only [World.frozen?, hh]
      simp
  rcases h with ⟨rfl, rfl⟩ | ⟨g, cap, rfl, hg, h1, h2, h3⟩
  · by_cases h0 : m = 0
    · subst h0
      obtain rfl : news = [] := List.length_eq_zero_iff.1 (by simpa using hnl)
      refine ⟨.slice none 0 0, w, ?_, RW.nil w _, fun j hj => (by omega), fun j hj => (by cases hj), ⟨rfl, rfl, rfl, Nat.le_refl _, fun _ _ _ => rfl⟩, .inl ⟨none, 0, rfl, rfl⟩⟩
      have hl0 : ∀ w', (Builtin.lenOf (.slice none 0 0)).run Tryz.prog w' = .ok 0 w' := fun _ => rfl
      rcases hs.kind with ⟨e', hk⟩ | hk <;> simp [Builtin.append_, run_underlying ht, run_underlying hk, sizeOf, typeInfo, hi, hs.len, hs.cells, hl0]
    · obtain ⟨v', w', hr, hrw, _, hn, hgr, hown⟩ := grow none 0 [] (by simp) (by omega) (by simp [Builtin.firstCells, loadCells, loadCellsFrom]) none
      exact ⟨v', w', hr, hrw, fun j hj => by omega, hn, hgr, .inr ⟨hown, hgr⟩⟩
  · by_cases hroom : n + m ≤ cap
    · have hle : n * i.size + news.length ≤ cap * i.size := by rw [hnl, ← Nat.add_mul]; exact Nat.mul_le_mul_right _ hroom
      have hr := run_append_room_src (P := Tryz.prog) w t tx ty e i ht hi g 0 n cap x m news hs hroom
        (fun j hj => by have := (h3 (n * i.size + j) (by omega)).1; simpa using this) (fun j hj => by have := (h3 (n * i.size + j) (by omega)).2; simpa using this)
      rw [Nat.zero_add] at hr
      have hin : ∀ j, j < news.length → (w.cell? ⟨g, n * i.size + j, none⟩).isSome = true := fun j hj => (h3 _ (by omega)).1
      have hi2 := World.cell?_setCells_in g news (n * i.size) w hin
      have ho2 : ∀ j, j < n * i.size ∨ n * i.size + news.length ≤ j → (w.setCells g (n * i.size) news).cell? ⟨g, j, none⟩ = w.cell? ⟨g, j, none⟩ := fun j hj => World.cell?_setCells_out g news (n * i.size) w _ (fun _ _ => hj)
      refine ⟨_, _, hr, ?_, fun j hj => ho2 j (.inl hj), fun j hj => (hi2 j hj).trans (List.getElem?_eq_getElem hj).symm, setCells_grown g _ _ w, .inl ⟨_, cap, rfl, rfl⟩⟩
      refine .inr ⟨g, cap, rfl, by rw [(setCells_rest g news _ w).2.2.2]; exact hg, hroom, h2, fun j hj => ?_⟩
      rw [World.frozen?_setCells]
      refine ⟨?_, (h3 j hj).2⟩
      by_cases hjl : n * i.size ≤ j ∧ j < n * i.size + news.length
      · obtain ⟨q, rfl⟩ : ∃ q, j = n * i.size + q := ⟨j - n * i.size, by omega⟩
        rw [hi2 q (by omega)]
        rfl
      · rw [ho2 j (by omega)]
        exact (h3 j hj).1
    · obtain ⟨olds, hol, hat⟩ : ∃ olds : List Value, olds.length = n * i.size ∧ ∀ j (hj : j < olds.length), w.cell? ⟨g, j, none⟩ = some olds[j] := by
        have hcell : ∀ j, j < n * i.size → ∃ u, w.cell? ⟨g, j, none⟩ = some u := fun j hj => Option.isSome_iff_exists.1 (h3 j (Nat.lt_of_lt_of_le hj (Nat.mul_le_mul_right _ h1))).1
        refine ⟨(List.range (n * i.size)).map (fun j => (w.cell? ⟨g, j, none⟩).getD default), by simp, fun j hj => ?_⟩
        obtain ⟨u, hu⟩ := hcell j (by simpa using hj)
        simp [hu]
      obtain ⟨v', w', hr, hrw, ho, hn, hgr, hown⟩ := grow (some ⟨g, 0, none⟩) cap olds hol (by omega) (by
        refine run_firstCells_some (P := Tryz.prog) w.drew i.size n ⟨g, 0, none⟩ n cap olds hol (fun j u hu => ?_)
        rw [addr_add]
        obtain ⟨hj, rfl⟩ := List.getElem?_eq_some_iff.1 hu
        exact hat j hj) none
      have hgr' : w.grownBy w' (some g) := ⟨hgr.os, hgr.tape, hgr.output, hgr.size, fun k hk _ => hgr.block k hk (by simp)⟩
      exact ⟨v', w', hr, hrw, fun j hj => by rw [ho j hj, List.getElem?_eq_getElem (by omega)]; exact (hat j (by omega)).symm, hn, hgr', .inr ⟨hown, hgr⟩⟩

theorem rw_append {w : World} {v x : Value} {n m : Nat} {news : List Value} {t tx : TypeId} (ty e : TypeId) (i : TypeInfo) (z : Value) (size bytes : Nat) (ht : Tryz.prog.underlying t = some (.slice e)) (hi : Tryz.prog.info? e = some i) (hz0 : i.zero = some z) (hz1 : i.size = size) (hz2 : i.bytes = bytes)
    (hzs : z.cells.size = size) (h : RW w size v n) (hs : Src Tryz.prog size tx x m news w) (hm : n + m ≤ maxLen) (hb : (n + m) * bytes ≤ 140737488355328) (hsz : 0 < size) :
    ∃ v' w', (Builtin.append_ #[t, tx] ty #[v, x]).run Tryz.prog w = .ok v' w' ∧ RW w' size v' (n + m) ∧ (∀ j, j < n * size → vc w' v' j = vc w v j) ∧ (∀ j, j < news.length → vc w' v' (n * size + j) = news[j]?) ∧
      w.grownBy w' v.ownBlock ∧ (v'.ownBlock = v.ownBlock ∨ v'.ownBlock = some w.heap.size) := by
  obtain ⟨v', w', a, b, c, d, e, f⟩ := rw_append2 ty e i z size bytes ht hi hz0 hz1 hz2 hzs h hs hm hb hsz
  refine ⟨v', w', a, b, c, d, e, ?_⟩
  rcases f with ⟨a, c, e1, e2⟩ | f
  · left; rw [e1, e2]; cases a <;> rfl
  · right; exact f.1

/-! ### bytes -/

/-- The slice v holds the bytes l. -/
structure BR (w : World) (v : Value) (l : List UInt8) : Prop where
  rw : RW w 1 v l.length
  at' : ∀ j (hj : j < l.length), vc w v j = some (.int .u8 (l[j].toNat : Int))

theorem BR.nil (w : World) : BR w (.slice none 0 0) [] := ⟨RW.nil w 1, fun _ h => by cases h⟩
theorem BR.lt {w : World} {v : Value} {l : List UInt8} (h : BR w v l) : ∀ g, v.ownBlock = some g → g < w.heap.size := h.rw.lt
theorem BR.kept {w w' : World} {v : Value} {l : List UInt8} (h : BR w v l) (hk : ∀ g, v.ownBlock = some g → w'.heap[g]? = w.heap[g]?) : BR w' v l :=
  ⟨h.rw.kept hk, fun j hj => (vc_kept hk j).trans (h.at' j hj)⟩
theorem BR.tn {F : Nat → Prop} {w w' : World} {v : Value} {l : List UInt8} (h : BR w v l) (t : Tn F w w') (hn : ∀ g, v.ownBlock = some g → ¬ F g) : BR w' v l :=
  h.kept (fun g hg => t.block g (h.lt g hg) (hn g hg))
theorem BR.no {w w' : World} {v : Value} {l : List UInt8} (h : BR w v l) (t : Tn No w w') : BR w' v l := h.tn t (fun _ _ e => e)

theorem u8_info : (Tryz.prog.info? 5).map (fun i => (i.zero, i.size, i.bytes)) = some (some (.int .u8 0), 1, 1) := by kernel_rfl

/-- '[]byte(s)' -/
theorem br_new (w : World) (s : ByteArray) (hs : s.size ≤ maxLen) :
    BR (Lib.bytesWorld w 5 s) (.slice (some ⟨w.heap.size, 0, none⟩) s.size (grownCap w s.size 0 5)) s.data.toList ∧ Tn No w (Lib.bytesWorld w 5 s) := by
  have hge := grownCap_ge w s.size 0 5
  have hl : s.data.toList.length = s.size := by simp
  refine ⟨⟨.inr ⟨w.heap.size, grownCap w s.size 0 5, by rw [hl], by rw [Lib.bytesWorld_size]; omega, by omega, grownCap_le_maxLen w _ 0 _ hs, ?_⟩, ?_⟩, ?_⟩
  · intro j hj
    have hsz : (Lib.bytesCells w 5 s).size = grownCap w s.size 0 5 := by simp [Lib.bytesCells]; omega
    simp only [World.cell?, World.frozen?, Lib.bytesWorld_at_new, hsz]
    refine ⟨?_, ?_⟩
    · simp
      omega
    · simp; omega
  · intro j hj
    have := Lib.bytesWorld_cell w 5 s j (by omega)
    show World.cell? _ _ = _
    rw [this, List.getD_eq_getElem?_getD, List.getElem?_eq_getElem hj]
    rfl
  · refine ⟨?_, ?_, ?_, by rw [Lib.bytesWorld_size]; omega, fun k hk _ => Lib.bytesWorld_at_old w _ s k hk⟩
    all_goals (simp only [Lib.bytesWorld, World.freeze]; split <;> rfl)

/-- the slice v' is v made longer in its place, or lies in a new block -/
def Goes (w w' : World) (v v' : Value) : Prop := (∃ a n n' c, v = .slice a n c ∧ v' = .slice a n' c ∧ n ≤ n') ∨ (v'.ownBlock = some w.heap.size ∧ w.grownBy w' none)
theorem Goes.own {w w' : World} {v v' : Value} (h : Goes w w' v v') : v'.ownBlock = v.ownBlock ∨ v'.ownBlock = some w.heap.size := by
  rcases h with ⟨a, n, n', c, rfl, rfl, _⟩ | h
  · left; cases a <;> rfl
  · exact .inr h.1

/-- 'append(v, x...)' of bytes, from a string or a slice -/
theorem br_append2 {w : World} {v x : Value} {l s : List UInt8} {tx : TypeId} (ty : TypeId) (h : BR w v l) (hs : Src Tryz.prog 1 tx x s.length (bc s) w) (hb : l.length + s.length ≤ 70368744177664) :
    ∃ v' w', (Builtin.append_ #[23, tx] ty #[v, x]).run Tryz.prog w = .ok v' w' ∧ BR w' v' (l ++ s) ∧ w.grownBy w' v.ownBlock ∧ Goes w w' v v' := by
  obtain ⟨i, hi, hz0, hz1, hz2⟩ := info_parts u8_info
  obtain ⟨v', w', hr, hrw, ho, hn, hg, hown⟩ := rw_append2 ty 5 i (.int .u8 0) 1 1 Tryz.underlying23 hi hz0 hz1 hz2 rfl h.rw hs (by unfold maxLen; omega) (by omega) (by omega)
  refine ⟨v', w', hr, ⟨by rw [List.length_append]; exact hrw, fun j hj => ?_⟩, hg, ?_⟩
  · rw [List.length_append] at hj
    by_cases hjl : j < l.length
    · rw [ho j (by omega), h.at' j hjl, List.getElem_append_left hjl]
    · have := hn (j - l.length) (by rw [bc_length]; omega)
      rw [show l.length * 1 + (j - l.length) = j by omega] at this
      rw [this, bc, List.getElem?_map, List.getElem?_eq_getElem (by omega), List.getElem_append_right (by omega)]
      rfl
  · rcases hown with ⟨a, c, e1, e2⟩ | hown
    · exact .inl ⟨a, _, _, c, e1, e2, by omega⟩
    · exact .inr hown
theorem br_append {w : World} {v x : Value} {l s : List UInt8} {tx : TypeId} (ty : TypeId) (h : BR w v l) (hs : Src Tryz.prog 1 tx x s.length (bc s) w) (hb : l.length + s.length ≤ 70368744177664) :
    ∃ v' w', (Builtin.append_ #[23, tx] ty #[v, x]).run Tryz.prog w = .ok v' w' ∧ BR w' v' (l ++ s) ∧ w.grownBy w' v.ownBlock ∧ (v'.ownBlock = v.ownBlock ∨ v'.ownBlock = some w.heap.size) := by
  obtain ⟨v', w', a, b, c, d⟩ := br_append2 ty h hs hb
  exact ⟨v', w', a, b, c, d.own⟩

/-- a shorter slice over the same row -/
theorem BR.pre {w : World} {a : Option Addr} {n c k : Nat} {l : List UInt8} (h : BR w (.slice a n c) l) (hn : l.length = n) (hk : k ≤ n) (hnil : a = none → k = 0 ∧ c = 0) : BR w (.slice a k c) (l.take k) := by
  obtain ⟨hrw, hat⟩ := h
  have hl : (l.take k).length = k := by simp; omega
  refine ⟨?_, fun j hj => ?_⟩
  · rw [hl]
    rcases hrw with ⟨e, _⟩ | ⟨g, cap, e, hg, h1, h2, h3⟩
    · cases e
      obtain ⟨rfl, _⟩ := hnil rfl
      exact .inl ⟨rfl, rfl⟩
    · simp only [Value.slice.injEq] at e
      obtain ⟨rfl, _, rfl⟩ := e
      exact .inr ⟨g, c, rfl, hg, by omega, h2, h3⟩
  · have := hat j (by omega)
    rw [List.getElem_take]
    cases a <;> exact this

/-- v can still be read as n bytes -/
def Still (w : World) (v : Value) (n : Nat) : Prop := ∃ l : List UInt8, l.length = n ∧ BR w v l
/-- cur is v made longer in its place, or has nothing to do with it -/
def Rel (v cur : Value) (n : Nat) : Prop := (∃ a m c, v = .slice a n c ∧ cur = .slice a m c ∧ n ≤ m) ∨ (∀ g, cur.ownBlock = some g → v.ownBlock ≠ some g)
theorem Still.kept {w w' : World} {v : Value} {n : Nat} (h : Still w v n) (hk : ∀ g, v.ownBlock = some g → w'.heap[g]? = w.heap[g]?) : Still w' v n := by
  obtain ⟨l, e, h⟩ := h
  exact ⟨l, e, h.kept hk⟩
theorem Still.same {w w' : World} {a : Option Addr} {n m c : Nat} {l : List UInt8} (h : Still w (.slice a n c) n) (hm : n ≤ m) (hbr : BR w' (.slice a m c) l) : Still w' (.slice a n c) n := by
  obtain ⟨l0, e0, h0⟩ := h
  obtain ⟨a1, c1, e1, _, _, hnil, _⟩ := h0.rw.form
  obtain ⟨a2, c2, e2, _⟩ := hbr.rw.form
  simp only [Value.slice.injEq] at e1 e2
  obtain ⟨rfl, _, rfl⟩ := e1
  obtain ⟨rfl, hl, rfl⟩ := e2
  refine ⟨l.take n, by simp; omega, hbr.pre hl.symm hm (fun h => ?_)⟩
  have := hnil h
  omega
theorem Still.step {w w' : World} {v cur : Value} {n : Nat} {l : List UInt8} (h : Still w v n) (hg : w.grownBy w' cur.ownBlock) (hr : Rel v cur n) (hbr : BR w' cur l) : Still w' v n := by
  rcases hr with ⟨a, m, c, rfl, rfl, hm⟩ | hr
  · exact h.same hm hbr
  · obtain ⟨l0, e0, h0⟩ := h
    exact ⟨l0, e0, h0.kept (fun g hg' => hg.block g (h0.lt g hg') (fun e => hr g e.symm hg'))⟩
theorem Still.goes {w w' : World} {v cur cur' : Value} {n : Nat} {l : List UInt8} (h : Still w v n) (hg : w.grownBy w' cur.ownBlock) (hr : Rel v cur n) (hgo : Goes w w' cur cur') (hbr : BR w' cur' l) : Still w' v n ∧ Rel v cur' n := by
  rcases hgo with ⟨a, m, m', c, rfl, rfl, hm⟩ | ⟨hn, hg0⟩
  · rcases hr with ⟨a1, m1, c1, rfl, e1, hm1⟩ | hr
    · simp only [Value.slice.injEq] at e1
      obtain ⟨rfl, rfl, rfl⟩ := e1
      exact ⟨h.same (Nat.le_trans hm1 hm) hbr, .inl ⟨a, m', c, rfl, rfl, Nat.le_trans hm1 hm⟩⟩
    · obtain ⟨l0, e0, h0⟩ := h
      refine ⟨⟨l0, e0, h0.kept (fun g hg' => hg.block g (h0.lt g hg') (fun e => hr g e.symm hg'))⟩, .inr (fun g hg' => hr g ?_)⟩
      cases a <;> exact hg'
  · obtain ⟨l0, e0, h0⟩ := h
    refine ⟨⟨l0, e0, h0.kept (fun g hg' => hg0.block g (h0.lt g hg') (by simp))⟩, .inr (fun g hg' e => ?_)⟩
    rw [hn] at hg'
    cases hg'
    have := h0.lt _ e
    omega

/-- 'string(v)' -/
theorem br_string {w : World} {v : Value} {l : List UInt8} (h : BR w v l) : (convert 23 9 v).run Tryz.prog w = .ok (.string ⟨l.toArray⟩) w := by
  obtain ⟨hrw, hat⟩ := h
  rcases hrw with ⟨rfl, e⟩ | ⟨g, cap, rfl, hg, h1, h2, h3⟩
  · obtain rfl := List.length_eq_zero_iff.1 e
    exact run_convert_bytes_nil w 23 5 Tryz.underlying23 Tryz.underlying5 0 0 9 Tryz.underlying9
  · refine run_convert_bytes_back w 23 9 5 ⟨g, 0, none⟩ cap l Tryz.underlying23 Tryz.underlying5 Tryz.underlying9 (fun j hj => ?_)
    rw [addr_add]
    exact hat j hj
end Go.Proofs.YtoidddfpekbliaaGreat
namespace Go.Proofs.YtoidddfpekbliaaGreat
set_option linter.unusedSimpArgs false
set_option linter.unusedVariables false
open Go.RowKit

structure De where
  kind : Int
  name : ByteArray
  place : Nat
structure Ev where
  kind : Int
  name : ByteArray
  text : List UInt8
/-- a world -/
structure St where
  fs : List UInt8 → Option (List UInt8)
  inp : List UInt8
  rd : Nat
  ds : Nat → De
  tr : List Ev
/-- what a block belongs to -/
inductive Lab where
  | st | inp | mp | tr
  | fl (k : List UInt8)
  | tx (i : Nat)
  | ob

def upd {α : Type} (c : Nat → α) (j : Nat) (v : α) : Nat → α := fun i => if i = j then v else c i
theorem upd_same {α : Type} (c : Nat → α) (j : Nat) (v : α) : upd c j v j = v := by simp [upd]
theorem upd_other {α : Type} (c : Nat → α) {i j : Nat} (v : α) (h : i ≠ j) : upd c j v i = c i := by simp [upd, h]
/-- a file is laid -/
def St.put (S : St) (k : List UInt8) (l : List UInt8) : St := { S with fs := fun x => if x = k then some l else S.fs x }

/-- the world's own cells -/
structure SC (w : World) (p : Nat) (c : Nat → Value) : Prop where
  lt : p < w.heap.size
  cell : ∀ i, i < 61 → w.cell? ⟨p, i, none⟩ = some (c i)
  froz : ∀ i, w.frozen? ⟨p, i, none⟩ = false
theorem SC.set {w : World} {p : Nat} {c : Nat → Value} (h : SC w p c) (j : Nat) (hj : j < 61) (v : Value) : SC (w.setCell ⟨p, j, none⟩ v) p (upd c j v) := by
  refine ⟨by simpa using h.lt, fun i hi => ?_, fun i => by rw [World.frozen?_setCell]; exact h.froz i⟩
  by_cases e : i = j
  · subst e
    rw [World.cell?_setCell_same w _ _ (h.cell i hi), upd_same]
  · rw [World.cell?_setCell_other w _ _ _ (by intro h; cases h; exact e rfl), upd_other _ _ e]
    exact h.cell i hi
theorem SC.kept {w w' : World} {p : Nat} {c : Nat → Value} (h : SC w p c) (hk : w'.heap[p]? = w.heap[p]?) : SC w' p c := by
  refine ⟨?_, fun i hi => ?_, fun i => ?_⟩
  · have : w.heap[p]? = some (w.heap[p]'h.lt) := Array.getElem?_eq_getElem h.lt
    rw [this] at hk
    exact (Array.getElem?_eq_some_iff.1 hk).1
  · rw [World.cell?_of_block (w := w) (a := ⟨p, i, none⟩) hk]; exact h.cell i hi
  · rw [World.frozen?_of_block (w := w) (a := ⟨p, i, none⟩) hk]; exact h.froz i

/-- a map's element, as it is -/
def rawElem (v : Value) : Option (DataW Value × List MemPlace) := some (.held v, [])
def nilV : Value := .slice none 0 0
theorem law9 : Maps.Keyed Tryz.prog 9 := Maps.string_keyed Tryz.underlying9
theorem zero64 (w : World) : (zeroValue 23).run Tryz.prog w = .ok nilV w := by kernel_rfl

/-- the files -/
def FM (w : World) (L : Nat → Option Lab) (N : Nat) (mo : Option Nat) (fs : List UInt8 → Option (List UInt8)) : Prop :=
  (mo = none ∧ ∀ k, fs k = none) ∨ ∃ b n D, mo = some b ∧ n ≤ N ∧ L b = some .mp ∧ w.ownsMap Tryz.prog 9 rawElem b n D ∧ ∀ k, Maps.has D (.string k) = (fs k).isSome ∧
    ∀ l, fs k = some l → ∃ v, D.atKey (.string k) (.held nilV) = .held v ∧ BR w v l ∧ (∀ g, v.ownBlock = some g → L g = some (.fl k)) ∧ l.length ≤ N

/-- the trace -/
structure EW (w : World) (L : Nat → Option Lab) (N : Nat) (tv : Value) (tr : List Ev) (vs : Nat → Value) : Prop where
  rw : RW w 3 tv tr.length
  lab : ∀ g, tv.ownBlock = some g → L g = some .tr
  len : tr.length ≤ N
  ev : ∀ i e, tr[i]? = some e → vc w tv (3 * i) = some (.int .i64 e.kind) ∧ vc w tv (3 * i + 1) = some (.string e.name) ∧ vc w tv (3 * i + 2) = some (vs i) ∧
    BR w (vs i) e.text ∧ (∀ g, (vs i).ownBlock = some g → L g = some (.tx i)) ∧ e.text.length ≤ N

structure PX (w : World) (p : Nat) (L : Nat → Option Lab) (N : Nat) (S : St) (c : Nat → Value) (mo : Option Nat) (iv tv : Value) (vs : Nat → Value) : Prop where
  sc : SC w p c
  c0 : c 0 = .map mo
  c1 : c 1 = iv
  c2 : c 2 = .int .i64 (S.rd : Int)
  c60 : c 60 = tv
  cd : ∀ i, i < 19 → c (3 + i * 3) = .int .i64 (S.ds i).kind ∧ c (3 + i * 3 + 1) = .string (S.ds i).name ∧ c (3 + i * 3 + 2) = .int .i64 ((S.ds i).place : Int)
  pl : ∀ i, i < 19 → (S.ds i).place ≤ N ∧ (S.ds i).name.size ≤ 255
  labs : L p = some .st
  lt : ∀ k, L k ≠ none → k < w.heap.size
  fm : FM w L N mo S.fs
  inp : BR w iv S.inp
  labi : ∀ g, iv.ownBlock = some g → L g = some .inp
  rd : S.rd ≤ S.inp.length
  ew : EW w L N tv S.tr vs

/-- At block p lies the program's world S; L tells which blocks are its own; N bounds what has grown. -/
def PW (w : World) (p : Nat) (L : Nat → Option Lab) (N : Nat) (S : St) : Prop := ∃ c mo iv tv vs, PX w p L N S c mo iv tv vs

/-- what is left behind a call on it -/
def Lft (w : World) (p : Nat) (L : Nat → Option Lab) (w' : World) (N' : Nat) (S' : St) : Prop :=
  ∃ L', PW w' p L' N' S' ∧ Tn (fun k => L k ≠ none) w w' ∧ ∀ k, k < w.heap.size → L k = none → L' k = none

theorem Lft.trans {w w1 w2 : World} {p : Nat} {L L1 : Nat → Option Lab} {N2 : Nat} {S2 : St} (h : Lft w1 p L1 w2 N2 S2) (t : Tn (fun k => L k ≠ none) w w1) (hl : ∀ k, k < w.heap.size → L k = none → L1 k = none) : Lft w p L w2 N2 S2 := by
  obtain ⟨L2, h2, t2, hl2⟩ := h
  refine ⟨L2, h2, t.trans t2 (fun _ _ e => e) (fun i hi e e' => e (hl i hi e')), fun k hk e => hl2 k (Nat.lt_of_lt_of_le hk t.size) (hl k hk e)⟩

theorem FM.kept2 {w w' : World} {L : Nat → Option Lab} {N : Nat} {mo : Option Nat} {fs : List UInt8 → Option (List UInt8)} (h : FM w L N mo fs) (hk : ∀ k, L k = some .mp ∨ (∃ n, L k = some (.fl n)) → w'.heap[k]? = w.heap[k]?) : FM w' L N mo fs := by
  rcases h with h | ⟨b, n, D, e, hn, hb, hown, hf⟩
  · exact .inl h
  · refine .inr ⟨b, n, D, e, hn, hb, ?_, fun k => ⟨(hf k).1, fun l hl => ?_⟩⟩
    · obtain ⟨es, clock, h1, r⟩ := hown
      exact ⟨es, clock, (hk b (.inl hb)).trans h1, r⟩
    · obtain ⟨v, hv, hbr, hlab, hlen⟩ := (hf k).2 l hl
      exact ⟨v, hv, hbr.kept (fun g hg => hk g (.inr ⟨_, hlab g hg⟩)), hlab, hlen⟩
theorem FM.kept {w w' : World} {L : Nat → Option Lab} {N : Nat} {mo : Option Nat} {fs : List UInt8 → Option (List UInt8)} (h : FM w L N mo fs) (hk : ∀ k, L k ≠ none → w'.heap[k]? = w.heap[k]?) : FM w' L N mo fs :=
  h.kept2 (fun k hl => hk k (by rcases hl with hl | ⟨n, hl⟩ <;> (rw [hl]; simp)))
theorem EW.kept2 {w w' : World} {L : Nat → Option Lab} {N : Nat} {tv : Value} {tr : List Ev} {vs : Nat → Value} (h : EW w L N tv tr vs) (hk : ∀ k, L k = some .tr ∨ (∃ i, L k = some (.tx i)) → w'.heap[k]? = w.heap[k]?) : EW w' L N tv tr vs := by
  have hk1 : ∀ g, tv.ownBlock = some g → w'.heap[g]? = w.heap[g]? := fun g hg => hk g (.inl (h.lab g hg))
  refine ⟨h.rw.kept hk1, h.lab, h.len, fun i e he => ?_⟩
  obtain ⟨a, b, c, d, f, g⟩ := h.ev i e he
  exact ⟨(vc_kept hk1 _).trans a, (vc_kept hk1 _).trans b, (vc_kept hk1 _).trans c, d.kept (fun g hg => hk g (.inr ⟨_, f g hg⟩)), f, g⟩
theorem EW.kept {w w' : World} {L : Nat → Option Lab} {N : Nat} {tv : Value} {tr : List Ev} {vs : Nat → Value} (h : EW w L N tv tr vs) (hk : ∀ k, L k ≠ none → w'.heap[k]? = w.heap[k]?) : EW w' L N tv tr vs :=
  h.kept2 (fun k hl => hk k (by rcases hl with hl | ⟨n, hl⟩ <;> (rw [hl]; simp)))
theorem PX.kept {w w' : World} {p : Nat} {L : Nat → Option Lab} {N : Nat} {S : St} {c : Nat → Value} {mo : Option Nat} {iv tv : Value} {vs : Nat → Value} (h : PX w p L N S c mo iv tv vs) (hs : w.heap.size ≤ w'.heap.size) (hk : ∀ k, L k ≠ none → w'.heap[k]? = w.heap[k]?) : PX w' p L N S c mo iv tv vs :=
  { h with
    sc := h.sc.kept (hk p (by rw [h.labs]; simp))
    lt := fun k hk => Nat.lt_of_lt_of_le (h.lt k hk) hs
    fm := h.fm.kept hk
    inp := h.inp.kept (fun g hg => hk g (by rw [h.labi g hg]; simp))
    ew := h.ew.kept hk }
theorem PX.tn {F : Nat → Prop} {w w' : World} {p : Nat} {L : Nat → Option Lab} {N : Nat} {S : St} {c : Nat → Value} {mo : Option Nat} {iv tv : Value} {vs : Nat → Value} (h : PX w p L N S c mo iv tv vs) (t : Tn F w w') (hF : ∀ k, F k → L k = none) : PX w' p L N S c mo iv tv vs :=
  h.kept t.size (fun k hk => t.block k (h.lt k hk) (fun e => hk (hF k e)))
theorem PX.no {w w' : World} {p : Nat} {L : Nat → Option Lab} {N : Nat} {S : St} {c : Nat → Value} {mo : Option Nat} {iv tv : Value} {vs : Nat → Value} (h : PX w p L N S c mo iv tv vs) (t : Tn No w w') : PX w' p L N S c mo iv tv vs := h.tn t (fun _ e => e.elim)
theorem PW.tn {F : Nat → Prop} {w w' : World} {p : Nat} {L : Nat → Option Lab} {N : Nat} {S : St} (h : PW w p L N S) (t : Tn F w w') (hF : ∀ k, F k → L k = none) : PW w' p L N S := by
  obtain ⟨c, mo, iv, tv, vs, h⟩ := h
  exact ⟨c, mo, iv, tv, vs, h.tn t hF⟩
theorem PW.no {w w' : World} {p : Nat} {L : Nat → Option Lab} {N : Nat} {S : St} (h : PW w p L N S) (t : Tn No w w') : PW w' p L N S := h.tn t (fun _ e => e.elim)
theorem PW.lt {w : World} {p : Nat} {L : Nat → Option Lab} {N : Nat} {S : St} (h : PW w p L N S) : ∀ k, L k ≠ none → k < w.heap.size := by obtain ⟨_, _, _, _, _, h⟩ := h; exact h.lt
theorem PW.plt {w : World} {p : Nat} {L : Nat → Option Lab} {N : Nat} {S : St} (h : PW w p L N S) : p < w.heap.size := by obtain ⟨_, _, _, _, _, h⟩ := h; exact h.sc.lt
theorem PW.labs {w : World} {p : Nat} {L : Nat → Option Lab} {N : Nat} {S : St} (h : PW w p L N S) : L p = some .st := by obtain ⟨_, _, _, _, _, h⟩ := h; exact h.labs
/-- nothing has happened to it -/
theorem PW.same {w w' : World} {p : Nat} {L : Nat → Option Lab} {N : Nat} {S : St} (h : PW w p L N S) (t : Tn No w w') : Lft w p L w' N S := ⟨L, h.no t, t.any, fun _ _ e => e⟩

/-- more room -/
theorem PX.mono {w : World} {p : Nat} {L : Nat → Option Lab} {N N' : Nat} {S : St} {c : Nat → Value} {mo : Option Nat} {iv tv : Value} {vs : Nat → Value} (h : PX w p L N S c mo iv tv vs) (hN : N ≤ N') : PX w p L N' S c mo iv tv vs :=
  { h with
    pl := fun i hi => ⟨Nat.le_trans (h.pl i hi).1 hN, (h.pl i hi).2⟩
    fm := by
      rcases h.fm with h | ⟨b, n, D, e, hn, hb, hown, hf⟩
      · exact .inl h
      · exact .inr ⟨b, n, D, e, Nat.le_trans hn hN, hb, hown, fun k => ⟨(hf k).1, fun l hl => by
          obtain ⟨v, hv, hbr, hlab, hlen⟩ := (hf k).2 l hl
          exact ⟨v, hv, hbr, hlab, Nat.le_trans hlen hN⟩⟩⟩
    ew := ⟨h.ew.rw, h.ew.lab, Nat.le_trans h.ew.len hN, fun i e he => by
      obtain ⟨a, b, c, d, f, g⟩ := h.ew.ev i e he
      exact ⟨a, b, c, d, f, Nat.le_trans g hN⟩⟩ }
theorem PW.mono {w : World} {p : Nat} {L : Nat → Option Lab} {N N' : Nat} {S : St} (h : PW w p L N S) (hN : N ≤ N') : PW w p L N' S := by
  obtain ⟨c, mo, iv, tv, vs, h⟩ := h
  exact ⟨c, mo, iv, tv, vs, h.mono hN⟩
theorem Lft.mono {w w' : World} {p : Nat} {L : Nat → Option Lab} {N N' : Nat} {S : St} (h : Lft w p L w' N S) (hN : N ≤ N') : Lft w p L w' N' S := by
  obtain ⟨L', h1, h2, h3⟩ := h
  exact ⟨L', h1.mono hN, h2, h3⟩

/-- a block that is nobody's is given a name -/
theorem PX.name {w : World} {p : Nat} {L : Nat → Option Lab} {N : Nat} {S : St} {c : Nat → Value} {mo : Option Nat} {iv tv : Value} {vs : Nat → Value} (h : PX w p L N S c mo iv tv vs) (g : Nat) (hg : g < w.heap.size) (hL : L g = none) (b : Lab) : PX w p (upd L g (some b)) N S c mo iv tv vs := by
  have up : ∀ {k : Nat} {x : Lab}, L k = some x → upd L g (some b) k = some x := fun {k x} e => by
    rw [upd_other _ _ (by rintro rfl; rw [hL] at e; cases e)]; exact e
  refine { h with labs := up h.labs, lt := fun k hk => ?_, fm := ?_, labi := fun g hg => up (h.labi g hg), ew := ?_ }
  · by_cases e : k = g
    · subst e; exact hg
    · rw [upd_other _ _ e] at hk; exact h.lt k hk
  · rcases h.fm with h | ⟨b', n, D, e, hn, hb, hown, hf⟩
    · exact .inl h
    · exact .inr ⟨b', n, D, e, hn, up hb, hown, fun k => ⟨(hf k).1, fun l hl => by
        obtain ⟨v, hv, hbr, hlab, hlen⟩ := (hf k).2 l hl
        exact ⟨v, hv, hbr, fun g hg => up (hlab g hg), hlen⟩⟩⟩
  · exact ⟨h.ew.rw, fun g hg => up (h.ew.lab g hg), h.ew.len, fun i e he => by
      obtain ⟨a, b, c, d, f, g⟩ := h.ew.ev i e he
      exact ⟨a, b, c, d, fun g hg => up (f g hg), g⟩⟩

/-- one of its own cells is written -/
theorem PX.store {w : World} {p : Nat} {L : Nat → Option Lab} {N : Nat} {S : St} {c : Nat → Value} {mo : Option Nat} {iv tv : Value} {vs : Nat → Value} (h : PX w p L N S c mo iv tv vs) (j : Nat) (hj : j < 61) (v : Value) :
    SC (w.setCell ⟨p, j, none⟩ v) p (upd c j v) ∧ FM (w.setCell ⟨p, j, none⟩ v) L N mo S.fs ∧ BR (w.setCell ⟨p, j, none⟩ v) iv S.inp ∧ EW (w.setCell ⟨p, j, none⟩ v) L N tv S.tr vs ∧ (w.setCell ⟨p, j, none⟩ v).heap.size = w.heap.size := by
  have hk : ∀ k, L k ≠ some .st → (w.setCell ⟨p, j, none⟩ v).heap[k]? = w.heap[k]? := fun k hk => Below.heap_setCell _ _ _ _ (by rintro rfl; exact hk h.labs)
  refine ⟨h.sc.set j hj v, h.fm.kept2 (fun k hl => hk k ?_), h.inp.kept (fun g hg => hk g (by rw [h.labi g hg]; simp)), h.ew.kept2 (fun k hl => hk k ?_), by simp⟩
  · rcases hl with hl | ⟨n, hl⟩ <;> (rw [hl]; simp)
  · rcases hl with hl | ⟨n, hl⟩ <;> (rw [hl]; simp)
/-- the place in the input is written -/
theorem PX.setRd {w : World} {p : Nat} {L : Nat → Option Lab} {N : Nat} {S : St} {c : Nat → Value} {mo : Option Nat} {iv tv : Value} {vs : Nat → Value} (h : PX w p L N S c mo iv tv vs) (r : Nat) (hr : r ≤ S.inp.length) :
    PX (w.setCell ⟨p, 2, none⟩ (.int .i64 (r : Int))) p L N { S with rd := r } (upd c 2 (.int .i64 (r : Int))) mo iv tv vs := by
  obtain ⟨h1, h2, h3, h4, h5⟩ := h.store 2 (by omega) (.int .i64 (r : Int))
  refine { h with sc := h1, c0 := ?_, c1 := ?_, c2 := upd_same _ _ _, c60 := ?_, cd := fun i hi => ?_, lt := fun k hk => by rw [h5]; exact h.lt k hk, fm := h2, inp := h3, rd := hr, ew := h4 }
  · rw [upd_other _ _ (by omega)]; exact h.c0
  · rw [upd_other _ _ (by omega)]; exact h.c1
  · rw [upd_other _ _ (by omega)]; exact h.c60
  · rw [upd_other _ _ (by omega), upd_other _ _ (by omega), upd_other _ _ (by omega)]; exact h.cd i hi
theorem Tn.own {w : World} {p : Nat} {L : Nat → Option Lab} {a : World} (t : Tn (fun k => L k ≠ none) a w) (hp : L p = some .st) (j : Nat) (v : Value) : Tn (fun k => L k ≠ none) a (w.setCell ⟨p, j, none⟩ v) := t.set _ _ (fun _ => by rw [hp]; simp)

/-- a descriptor's cells -/
theorem PX.de {w : World} {p : Nat} {L : Nat → Option Lab} {N : Nat} {S : St} {c : Nat → Value} {mo : Option Nat} {iv tv : Value} {vs : Nat → Value} (h : PX w p L N S c mo iv tv vs) (i : Nat) (hi : i < 19) :
    w.cell? ⟨p, 3 + i * 3, none⟩ = some (.int .i64 (S.ds i).kind) ∧ w.cell? ⟨p, 3 + i * 3 + 1, none⟩ = some (.string (S.ds i).name) ∧ w.cell? ⟨p, 3 + i * 3 + 2, none⟩ = some (.int .i64 ((S.ds i).place : Int)) := by
  obtain ⟨d0, d1, d2⟩ := h.cd i hi
  exact ⟨by rw [h.sc.cell _ (by omega), d0], by rw [h.sc.cell _ (by omega), d1], by rw [h.sc.cell _ (by omega), d2]⟩

/-- the look-up of a file -/
theorem fm_look {w : World} {L : Nat → Option Lab} {N : Nat} {mo : Option Nat} {fs : List UInt8 → Option (List UInt8)} (h : FM w L N mo fs) (s : ByteArray) (hs : s.size ≤ maxLen) :
    ∃ v, (Instr.lookup 90 (.map mo) (.string s) true).run Tryz.prog w = .ok (.tuple #[v, .bool (fs s.data.toList).isSome]) w ∧ (Instr.lookup 90 (.map mo) (.string s) false).run Tryz.prog w = .ok v w ∧
      BR w v ((fs s.data.toList).getD []) ∧ (∀ g, v.ownBlock = some g → L g = some (.fl s.data.toList)) ∧ ((fs s.data.toList).getD []).length ≤ N := by
  have hkey := WideMaps.keyOf_string_mk (P := Tryz.prog) Tryz.underlying9 hs
  rcases h with ⟨rfl, hf⟩ | ⟨b, n, D, rfl, hn, hb, hown, hf⟩
  · rw [hf]
    have h1 := Maps.look_nil (P := Tryz.prog) (w := w) true law9 Tryz.underlying90 (zero64 w) hkey
    have h2 := Maps.look_nil (P := Tryz.prog) (w := w) false law9 Tryz.underlying90 (zero64 w) hkey
    exact ⟨nilV, h1, h2, BR.nil w, fun g h => (by cases h), by simp⟩
  · obtain ⟨v, ps, hr1, hv1⟩ := hown.look_ok law9 Tryz.underlying90 (zero64 w) (zd := .held nilV) (zp := []) rfl hkey
    obtain ⟨v2, ps2, hr2, hv2⟩ := hown.lookup law9 Tryz.underlying90 (zero64 w) (zd := .held nilV) (zp := []) rfl hkey
    simp only [rawElem, Option.some.injEq, Prod.mk.injEq] at hv1 hv2
    have e : v2 = v := by
      have := hv2.1.trans hv1.1.symm
      cases this; rfl
    subst e
    rw [(hf s.data.toList).1] at hr1
    refine ⟨v2, hr1, hr2, ?_⟩
    cases hfs : fs s.data.toList with
    | none =>
      have hno : Maps.has D (.string s.data.toList) = false := by rw [(hf _).1, hfs]; rfl
      have := Maps.atKey_of_not_has hno (.held nilV)
      rw [this] at hv1
      have e : v2 = nilV := by cases hv1.1; rfl
      subst e
      exact ⟨BR.nil w, fun g h => (by cases h), by simp⟩
    | some l =>
      obtain ⟨v', hv', hbr, hlab, hlen⟩ := (hf _).2 l hfs
      have e : v2 = v' := by
        have := hv1.1.trans hv'
        cases this; rfl
      subst e
      exact ⟨hbr, hlab, hlen⟩

/-- a file is stored in the map -/
theorem fm_store {w : World} {L : Nat → Option Lab} {N b : Nat} {fs : List UInt8 → Option (List UInt8)} (h : FM w L N (some b) fs) (hN : N < maxLen) (s : ByteArray) (hs : s.size ≤ maxLen) (v : Value) (l : List UInt8) (hv : BR w v l) (hlv : ∀ g, v.ownBlock = some g → L g = some (.fl s.data.toList)) (hll : l.length ≤ N + 1) :
    ∃ w', (Instr.mapUpdate 90 (.map (some b)) (.string s) v).run Tryz.prog w = .ok () w' ∧ FM w' L (N + 1) (some b) (fun x => if x = s.data.toList then some l else fs x) ∧ w.grownBy w' (some b) ∧ L b = some .mp := by
  have hkey := WideMaps.keyOf_string_mk (P := Tryz.prog) Tryz.underlying9 hs
  rcases h with ⟨h, _⟩ | ⟨b', n, D, e, hn, hb, hown, hf⟩
  · cases h
  · cases e
    obtain ⟨w', hr, hown', hg⟩ := hown.update law9 Tryz.underlying90 (Nat.lt_of_le_of_lt hn hN) (d := .held v) (ps := []) hkey rfl
    have hkl : WideAt.IsKeyLit (.string s.data.toList) := law9.key hkey
    have hkept : ∀ u r, BR w u r → (∀ g, u.ownBlock = some g → ∃ k, L g = some (.fl k)) → BR w' u r := fun u r hu hlu => hu.kept (fun g hg' => hg.block g (hu.lt g hg') (by
      obtain ⟨k, hk⟩ := hlu g hg'
      rintro ⟨⟩
      rw [hb] at hk; cases hk))
    refine ⟨w', hr, .inr ⟨b, n + 1, D.put (.string s.data.toList) (.held v), rfl, by omega, hb, hown', fun k => ?_⟩, hg, hb⟩
    by_cases e : k = s.data.toList
    · subst e
      simp only [if_true]
      refine ⟨by rw [Maps.has_put_same hown.isMap hkl]; rfl, fun l' hl' => ?_⟩
      cases hl'
      exact ⟨v, Maps.atKey_put_same hown.isMap hkl _ _, hkept v l hv (fun g hg => ⟨_, hlv g hg⟩), hlv, hll⟩
    · simp only [if_neg e]
      have hne : Lit.string k ≠ .string s.data.toList := fun h => e (by cases h; rfl)
      refine ⟨by rw [Maps.has_put_other hne]; exact (hf k).1, fun l' hl' => ?_⟩
      obtain ⟨v', hv', hbr, hlab, hlen⟩ := (hf k).2 l' hl'
      exact ⟨v', by rw [Maps.atKey_put_other hne]; exact hv', hkept v' l' hbr (fun g hg => ⟨_, hlab g hg⟩), hlab, by omega⟩
end Go.Proofs.YtoidddfpekbliaaGreat
namespace Go.Proofs.YtoidddfpekbliaaGreat
set_option linter.unusedSimpArgs false
set_option linter.unusedVariables false
open Go.RowKit
attribute [local go_sem ↓] Go.wp_at_zero Go.wp_at_succ

theorem among_raw (n l g : Int) (w : World) : Calls Tryz.prog 93 #[.int .i64 n, .int .i64 l, .int .i64 g] w fun e w' => e = .returned (.bool (decide (l ≤ n) && decide (n ≤ g))) ∧ w' = w := by
  by_cases h1 : l ≤ n
  · by_cases h2 : n ≤ g
    · go_enter Tryz.func93, Tryz.ntmps93
      go_wp2
      go_ret
      exact ⟨ret_bool (by simp [h1, h2]), rfl⟩
    · rw [Int.not_le] at h2
      go_enter Tryz.func93, Tryz.ntmps93
      go_wp2
      go_ret
      exact ⟨ret_bool (by simp [h1, h2]), rfl⟩
  · rw [Int.not_le] at h1
    go_enter Tryz.func93, Tryz.ntmps93
    go_wp2
    go_ret
    exact ⟨ret_bool (by simp; omega), rfl⟩

theorem one_raw (b : Bool) (w : World) : Calls Tryz.prog 125 #[.bool b] w fun e w' => e = .returned (.int .u64 (cond b 1 0)) ∧ w' = w := by
  cases b
  all_goals
    go_enter Tryz.func125, Tryz.ntmps125
    go_wp2
    go_ret
    exact ⟨rfl, rfl⟩

/-- a word -/
def U64 (v : Int) : Prop := 0 ≤ v ∧ v ≤ 18446744073709551615
theorem address_ex (f : Int) : ∃ v, U64 v ∧ ∀ w, Calls Tryz.prog 127 #[.int .i64 f] w fun e w' => e = .returned (.int .u64 v) ∧ w' = w := by
  apply Exists.intro
  refine ⟨?bd, ?wk⟩
  case wk =>
    intro w
    go_enter Tryz.func127, Tryz.ntmps127
    go_wp2
    go_ret
    exact ⟨rfl, rfl⟩
  case bd =>
    have h := bounds_u64 (wf_wrap .u64 (4194304 + IntKind.u64.wrap (16 * IntKind.u64.wrap f)))
    exact ⟨h.1, h.2⟩

theorem holds_ex (c a b : Int) : ∃ v, ∀ w, Calls Tryz.prog 79 #[.int .i64 c, .int .u64 a, .int .u64 b] w fun e w' => e = .returned (.bool v) ∧ w' = w := by
  by_cases h1 : c = 1
  · subst h1
    apply Exists.intro
    intro w
    go_enter Tryz.func79, Tryz.ntmps79
    go_wp2
    go_ret
    exact ⟨rfl, rfl⟩
  · have hc1 : (c == 1) = false := by simpa using h1
    by_cases h2 : c = 2
    · subst h2
      apply Exists.intro
      intro w
      go_enter Tryz.func79, Tryz.ntmps79
      go_wp2
      go_ret
      exact ⟨rfl, rfl⟩
    · have hc2 : (c == 2) = false := by simpa using h2
      by_cases h3 : c = 3
      · subst h3
        apply Exists.intro
        intro w
        go_enter Tryz.func79, Tryz.ntmps79
        go_wp2
        go_ret
        exact ⟨rfl, rfl⟩
      · have hc3 : (c == 3) = false := by simpa using h3
        by_cases h4 : c = 4
        · subst h4
          apply Exists.intro
          intro w
          go_enter Tryz.func79, Tryz.ntmps79
          go_wp2
          go_ret
          exact ⟨rfl, rfl⟩
        · have hc4 : (c == 4) = false := by simpa using h4
          by_cases h5 : c = 5
          · subst h5
            apply Exists.intro
            intro w
            go_enter Tryz.func79, Tryz.ntmps79
            go_wp2
            go_ret
            exact ⟨rfl, rfl⟩
          · have hc5 : (c == 5) = false := by simpa using h5
            apply Exists.intro
            intro w
            go_enter Tryz.func79, Tryz.ntmps79
            go_wp2
            go_ret
            exact ⟨rfl, rfl⟩

end Go.Proofs.YtoidddfpekbliaaGreat
namespace Go.Proofs.YtoidddfpekbliaaGreat
set_option linter.unusedSimpArgs false
set_option linter.unusedVariables false
open Go.RowKit
attribute [local go_sem ↓] Go.wp_at_zero Go.wp_at_succ

def fieldsT : List Int := [0, 1, 3, 7, 7, 7, 7, 7, 7, 7, 7, 7, 7, 7, 7, 71, 135, 259, 262, 8, 8, 78, 49, 35, 48, 34, 2, 1, 17, 1, 33, 1, 2]
/-- which fields a kind names -/
def fieldsF (k : Int) : Int := if 0 ≤ k then fieldsT.getD k.toNat 0 else 0
theorem fieldsF_out {k : Int} (h : k < 1 ∨ 32 < k) : fieldsF k = 0 := by
  unfold fieldsF
  split
  · rcases h with h | h
    · have : k.toNat = 0 := by omega
      rw [this]; rfl
    · rw [List.getD_eq_getElem?_getD, List.getElem?_eq_none (by show 33 ≤ _; omega)]; rfl
  · rfl

set_option maxHeartbeats 8000000 in
set_option maxRecDepth 100000 in
theorem fields_raw (k : Int) (w : World) : Calls Tryz.prog 96 #[.int .i64 k] w fun e w' => e = .returned (.int .i64 (fieldsF k)) ∧ w' = w := by
  by_cases hk : 1 ≤ k ∧ k ≤ 32
  · have cases32 : k = 1 ∨ k = 2 ∨ k = 3 ∨ k = 4 ∨ k = 5 ∨ k = 6 ∨ k = 7 ∨ k = 8 ∨ k = 9 ∨ k = 10 ∨ k = 11 ∨ k = 12 ∨ k = 13 ∨ k = 14 ∨ k = 15 ∨ k = 16 ∨ k = 17 ∨ k = 18 ∨ k = 19 ∨ k = 20 ∨ k = 21 ∨ k = 22 ∨ k = 23 ∨ k = 24 ∨ k = 25 ∨ k = 26 ∨ k = 27 ∨ k = 28 ∨ k = 29 ∨ k = 30 ∨ k = 31 ∨ k = 32 := by omega
    rcases cases32 with rfl | rfl | rfl | rfl | rfl | rfl | rfl | rfl | rfl | rfl | rfl | rfl | rfl | rfl | rfl | rfl | rfl | rfl | rfl | rfl | rfl | rfl | rfl | rfl | rfl | rfl | rfl | rfl | rfl | rfl | rfl | rfl
    all_goals
      go_enter Tryz.func96, Tryz.ntmps96
      go_wp2
      go_ret
      exact ⟨rfl, rfl⟩
  · rw [fieldsF_out (by omega)]
    have n1 : (k == 1) = false := by simp; omega
    have n2 : (k == 2) = false := by simp; omega
    have n3 : (k == 3) = false := by simp; omega
    have n4 : (k == 4) = false := by simp; omega
    have n5 : (k == 5) = false := by simp; omega
    have n6 : (k == 6) = false := by simp; omega
    have n7 : (k == 7) = false := by simp; omega
    have n8 : (k == 8) = false := by simp; omega
    have n9 : (k == 9) = false := by simp; omega
    have n10 : (k == 10) = false := by simp; omega
    have n11 : (k == 11) = false := by simp; omega
    have n12 : (k == 12) = false := by simp; omega
    have n13 : (k == 13) = false := by simp; omega
    have n14 : (k == 14) = false := by simp; omega
    have n15 : (k == 15) = false := by simp; omega
    have n16 : (k == 16) = false := by simp; omega
    have n17 : (k == 17) = false := by simp; omega
    have n18 : (k == 18) = false := by simp; omega
    have n19 : (k == 19) = false := by simp; omega
    have n20 : (k == 20) = false := by simp; omega
    have n21 : (k == 21) = false := by simp; omega
    have n22 : (k == 22) = false := by simp; omega
    have n23 : (k == 23) = false := by simp; omega
    have n24 : (k == 24) = false := by simp; omega
    have n25 : (k == 25) = false := by simp; omega
    have n26 : (k == 26) = false := by simp; omega
    have n27 : (k == 27) = false := by simp; omega
    have n28 : (k == 28) = false := by simp; omega
    have n29 : (k == 29) = false := by simp; omega
    have n30 : (k == 30) = false := by simp; omega
    have n31 : (k == 31) = false := by simp; omega
    have n32 : (k == 32) = false := by simp; omega
    clear hk
    go_enter Tryz.func96, Tryz.ntmps96
    go_wp2
    go_ret
    exact ⟨rfl, rfl⟩

def leavesF (k : Int) : Bool := k == 20 || k == 24 || k == 25 || k == 26
def callsF (k : Int) : Bool := k == 22 || k == 23
def sizeF (k : Int) : Bool := k == 1 || k == 4 || k == 8

set_option maxHeartbeats 2000000 in
set_option maxRecDepth 100000 in
theorem leaves_raw (k : Int) (w : World) : Calls Tryz.prog 94 #[.int .i64 k] w fun e w' => e = .returned (.bool (leavesF k)) ∧ w' = w := by
  by_cases hk : k = 20 ∨ k = 24 ∨ k = 25 ∨ k = 26
  · rcases hk with rfl | rfl | rfl | rfl
    all_goals
      go_enter Tryz.func94, Tryz.ntmps94
      go_wp2
      go_ret
      exact ⟨rfl, rfl⟩
  · have n20 : (k == 20) = false := by simp; omega
    have n24 : (k == 24) = false := by simp; omega
    have n25 : (k == 25) = false := by simp; omega
    have n26 : (k == 26) = false := by simp; omega
    have ev : leavesF k = false := by unfold leavesF; simp only [n20, n24, n25, n26, Bool.or_self]
    rw [ev]
    clear hk ev
    go_enter Tryz.func94, Tryz.ntmps94
    go_wp2
    go_ret
    exact ⟨rfl, rfl⟩

set_option maxHeartbeats 2000000 in
set_option maxRecDepth 100000 in
theorem calls_raw (k : Int) (w : World) : Calls Tryz.prog 101 #[.int .i64 k] w fun e w' => e = .returned (.bool (callsF k)) ∧ w' = w := by
  by_cases hk : k = 22 ∨ k = 23
  · rcases hk with rfl | rfl
    all_goals
      go_enter Tryz.func101, Tryz.ntmps101
      go_wp2
      go_ret
      exact ⟨rfl, rfl⟩
  · have n22 : (k == 22) = false := by simp; omega
    have n23 : (k == 23) = false := by simp; omega
    have ev : callsF k = false := by unfold callsF; simp only [n22, n23, Bool.or_self]
    rw [ev]
    clear hk ev
    go_enter Tryz.func101, Tryz.ntmps101
    go_wp2
    go_ret
    exact ⟨rfl, rfl⟩

set_option maxHeartbeats 2000000 in
set_option maxRecDepth 100000 in
theorem size_raw (k : Int) (w : World) : Calls Tryz.prog 53 #[.int .i64 k] w fun e w' => e = .returned (.bool (sizeF k)) ∧ w' = w := by
  by_cases hk : k = 1 ∨ k = 4 ∨ k = 8
  · rcases hk with rfl | rfl | rfl
    all_goals
      go_enter Tryz.func53, Tryz.ntmps53
      go_wp2
      go_ret
      exact ⟨rfl, rfl⟩
  · have n1 : (k == 1) = false := by simp; omega
    have n4 : (k == 4) = false := by simp; omega
    have n8 : (k == 8) = false := by simp; omega
    have ev : sizeF k = false := by unfold sizeF; simp only [n1, n4, n8, Bool.or_self]
    rw [ev]
    clear hk ev
    go_enter Tryz.func53, Tryz.ntmps53
    go_wp2
    go_ret
    exact ⟨rfl, rfl⟩
end Go.Proofs.YtoidddfpekbliaaGreat
