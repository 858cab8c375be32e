/-
  The words in which the contracts of this seat's functions are said: bytes in memory, what has become of memory.
-/
import Derived.Test.YtlkbnjdhokjfnaaRows
import Derived.WalkKit
import Derived.WalkSpells
import Derived.WalkLawsBesides
import Derived.WalkMore
import Derived.Deep.RegionHeld3
import Derived.Deep.AppendLies
import Derived.Deep.DrawnRows
import Derived.Deep.QuietTactic
import Derived.BigQuiet
import Derived.Maps.OwnSet
import Derived.Maps.AppendAt
import Derived.Deep.AppendSrc
import Derived.Lib.ConvBytes
import Derived.Lib.Bytealg
import Derived.Lib.BytesEntry
import Derived.Laws.BytesArg
namespace Go.Proofs.Ytlkbnjdhokjfnaa
set_option linter.unusedSimpArgs false
set_option linter.unusedVariables false
open Go.RowKit

theorem hid {p : Prop} (h : p) : Hid p := h
theorem ret_int {k : IntKind} {a b : Int} (h : a = b) : Ending.returned (.int k a) = .returned (.int k b) := by rw [h]
theorem ret_bool {a b : Bool} (h : a = b) : Ending.returned (.bool a) = .returned (.bool b) := by rw [h]

/-- bytes as cells -/
def bc (l : List UInt8) : List Value := l.map fun b => Value.int .u8 (b.toNat : Int)
theorem bc_length (l : List UInt8) : (bc l).length = l.length := by simp [bc]
theorem bc_append (l r : List UInt8) : bc (l ++ r) = bc l ++ bc r := by simp [bc]
theorem bc_one (l : List UInt8) : ∀ v ∈ bc l, v.oneCell' = true := by
  intro v hv; simp only [bc, List.mem_map] at hv; obtain ⟨x, _, rfl⟩ := hv; rfl
theorem bc_string (s : ByteArray) : byteCells s = bc s.data.toList := rfl

/-! ### what has become of memory -/

/-- Nothing that was there has turned, but for blocks of F. -/
structure Tn (F : Nat → Prop) (w w' : World) : Prop where
  os : w'.os = w.os
  tape : w'.tape = w.tape
  output : w'.output = w.output
  size : w.heap.size ≤ w'.heap.size
  block : ∀ k, k < w.heap.size → ¬ F k → w'.heap[k]? = w.heap[k]?

/-- nothing old at all -/
def No : Nat → Prop := fun _ => False

theorem Tn.refl (F : Nat → Prop) (w : World) : Tn F w w := ⟨rfl, rfl, rfl, Nat.le_refl _, fun _ _ _ => rfl⟩
theorem Tn.trans {F G H : Nat → Prop} {a b c : World} (h : Tn F a b) (k : Tn G b c) (hF : ∀ i, i < a.heap.size → F i → H i) (hG : ∀ i, i < a.heap.size → G i → H i) : Tn H a c :=
  ⟨k.os.trans h.os, k.tape.trans h.tape, k.output.trans h.output, Nat.le_trans h.size k.size, fun i hi hn =>
    (k.block i (Nat.lt_of_lt_of_le hi h.size) (fun e => hn (hG i hi e))).trans (h.block i hi (fun e => hn (hF i hi e)))⟩
theorem Tn.mono {F H : Nat → Prop} {a b : World} (h : Tn F a b) (hF : ∀ i, i < a.heap.size → F i → H i) : Tn H a b :=
  ⟨h.os, h.tape, h.output, h.size, fun i hi hn => h.block i hi (fun e => hn (hF i hi e))⟩
theorem Tn.any {F : Nat → Prop} {a b : World} (h : Tn No a b) : Tn F a b := h.mono (fun _ _ e => e.elim)
theorem Tn.then {F : Nat → Prop} {a b c : World} (h : Tn F a b) (k : Tn F b c) : Tn F a c := h.trans k (fun _ _ e => e) (fun _ _ e => e)
theorem Tn.thenNo {F : Nat → Prop} {a b c : World} (h : Tn F a b) (k : Tn No b c) : Tn F a c := h.trans k (fun _ _ e => e) (fun _ _ e => e.elim)
theorem Tn.alloc {F : Nat → Prop} {a w : World} (h : Tn F a w) (o : Obj) : Tn F a (w.alloc o) :=
  h.thenNo ⟨rfl, rfl, rfl, by simp, fun k hk _ => Below.heap_alloc _ _ _ hk⟩
theorem Tn.drew {F : Nat → Prop} {a w : World} (h : Tn F a w) : Tn F a w.drew := ⟨h.os, h.tape, h.output, h.size, h.block⟩
theorem Tn.drewN {F : Nat → Prop} {a w : World} (h : Tn F a w) (n : Nat) : Tn F a (w.drewN n) := ⟨h.os, h.tape, h.output, h.size, h.block⟩
theorem Tn.set {F : Nat → Prop} {a w : World} (h : Tn F a w) (p : Addr) (v : Value) (hp : p.block < a.heap.size → F p.block) : Tn F a (w.setCell p v) :=
  h.trans (G := fun k => k = p.block) ⟨rfl, rfl, rfl, by simp, fun k _ hn => Below.heap_setCell _ _ _ _ hn⟩ (fun _ _ e => e) (fun i hi e => by subst e; exact hp hi)
theorem Tn.grown {F : Nat → Prop} {a b c : World} {r : Option Nat} (h : Tn F a b) (k : b.grownBy c r) (hr : ∀ i, r = some i → i < a.heap.size → F i) : Tn F a c :=
  h.trans (G := fun i => r = some i) ⟨k.os, k.tape, k.output, k.size, fun i hi hn => k.block i hi (fun e => hn e.symm)⟩ (fun _ _ e => e) (fun i hi e => hr i e hi)
theorem Tn.of_grown {a b : World} {r : Option Nat} (k : a.grownBy b r) : Tn (fun i => r = some i) a b :=
  ⟨k.os, k.tape, k.output, k.size, fun i hi hn => k.block i hi (fun e => hn e.symm)⟩
theorem Tn.no {a b : World} (h : Tn No a b) : a.grownBy b none := ⟨h.os, h.tape, h.output, h.size, fun k hk _ => h.block k hk (fun e => e)⟩
theorem Tn.below {a b : World} (h : Tn No a b) : Below a.heap.size a b := ⟨h.os, h.tape, h.output, h.size, fun k hk => h.block k hk (fun e => e)⟩
theorem Tn.cell {F : Nat → Prop} {a b : World} (h : Tn F a b) {k o : Nat} (hk : k < a.heap.size) (hn : ¬ F k) : b.cell? ⟨k, o, none⟩ = a.cell? ⟨k, o, none⟩ := World.cell?_of_block (w := a) (h.block k hk hn)
theorem Tn.frozen {F : Nat → Prop} {a b : World} (h : Tn F a b) {k o : Nat} (hk : k < a.heap.size) (hn : ¬ F k) : b.frozen? ⟨k, o, none⟩ = a.frozen? ⟨k, o, none⟩ := World.frozen?_of_block (w := a) (h.block k hk hn)
theorem Tn.old {a b : World} (h : Tn No a b) : (∀ k o, k < a.heap.size → b.cell? ⟨k, o, none⟩ = a.cell? ⟨k, o, none⟩) ∧ (∀ k o, k < a.heap.size → b.frozen? ⟨k, o, none⟩ = a.frozen? ⟨k, o, none⟩) :=
  ⟨fun k o hk => h.cell hk (fun e => e), fun k o hk => h.frozen hk (fun e => e)⟩

/-! ### rows behind slices of the program's own -/

/-- cell j of the row behind the slice v -/
def vc (w : World) (v : Value) (j : Nat) : Option Value := match v with | .slice (some a) _ _ => w.cell? ⟨a.block, j, none⟩ | _ => none

theorem vc_kept {w w' : World} {v : Value} (hk : ∀ g, v.ownBlock = some g → w'.heap[g]? = w.heap[g]?) (j : Nat) : vc w' v j = vc w v j := by
  unfold vc
  split
  · rename_i a n c
    exact World.cell?_of_block (w := w) (a := ⟨a.block, j, none⟩) (hk a.block rfl)
  · rfl

/-- The slice v of n elements, each of 'size' cells: nil, or all of a block's cells from its head on up to its capacity may be written. -/
def RW (w : World) (size : Nat) (v : Value) (n : Nat) : Prop :=
  (v = .slice none 0 0 ∧ n = 0) ∨ ∃ g cap, v = .slice (some ⟨g, 0, none⟩) n cap ∧ g < w.heap.size ∧ n ≤ cap ∧ cap ≤ maxLen ∧
    ∀ j, j < cap * size → (w.cell? ⟨g, j, none⟩).isSome = true ∧ w.frozen? ⟨g, j, none⟩ = false

theorem RW.nil (w : World) (size : Nat) : RW w size (.slice none 0 0) 0 := .inl ⟨rfl, rfl⟩
theorem RW.lt {w : World} {size : Nat} {v : Value} {n : Nat} (h : RW w size v n) : ∀ g, v.ownBlock = some g → g < w.heap.size := by
  rcases h with ⟨rfl, _⟩ | ⟨g, cap, rfl, hg, _⟩
  · intro g h; cases h
  · intro g' h; cases h; exact hg
theorem RW.kept {w w' : World} {size : Nat} {v : Value} {n : Nat} (h : RW w size v n) (hk : ∀ g, v.ownBlock = some g → w'.heap[g]? = w.heap[g]?) : RW w' size v n := by
  rcases h with ⟨rfl, e⟩ | ⟨g, cap, rfl, hg, h1, h2, h3⟩
  · exact .inl ⟨rfl, e⟩
  · have hb := hk g rfl
    refine .inr ⟨g, cap, rfl, ?_, h1, h2, ?_⟩
    · have : w.heap[g]? = some (w.heap[g]) := Array.getElem?_eq_getElem hg
      rw [this] at hb
      exact (Array.getElem?_eq_some_iff.1 hb).1
    · intro j hj
      rw [World.cell?_of_block (w := w) (a := ⟨g, j, none⟩) hb, World.frozen?_of_block (w := w) (a := ⟨g, j, none⟩) hb]
      exact h3 j hj
theorem RW.form {w : World} {size : Nat} {v : Value} {n : Nat} (h : RW w size v n) : ∃ a cap, v = .slice a n cap ∧ n ≤ cap ∧ cap ≤ 9223372036854775807 ∧ (a = none → n = 0 ∧ cap = 0) ∧ (∀ x, a = some x → x = ⟨x.block, 0, none⟩ ∧ x.block < w.heap.size) := by
  rcases h with ⟨rfl, rfl⟩ | ⟨g, cap, rfl, hg, h1, h2, _⟩
  · exact ⟨none, 0, rfl, Nat.le_refl _, by omega, fun _ => ⟨rfl, rfl⟩, fun x h => (by cases h)⟩
  · exact ⟨_, cap, rfl, h1, by unfold maxLen at h2; omega, fun h => (by cases h), fun x h => (by cases h; exact ⟨rfl, hg⟩)⟩
theorem RW.pos {w : World} {size : Nat} {v : Value} {n : Nat} (h : RW w size v n) (hn : 0 < n) : ∃ g cap, v = .slice (some ⟨g, 0, none⟩) n cap ∧ g < w.heap.size ∧ n ≤ cap ∧ cap ≤ 9223372036854775807 ∧ ∀ j, j < n * size → w.frozen? ⟨g, j, none⟩ = false := by
  rcases h with ⟨_, e⟩ | ⟨g, cap, rfl, hg, h1, h2, h3⟩
  · omega
  · exact ⟨g, cap, rfl, hg, h1, by unfold maxLen at h2; omega, fun j hj => (h3 j (Nat.lt_of_lt_of_le hj (Nat.mul_le_mul_right _ h1))).2⟩

theorem setCells_other (g : Nat) : ∀ (vs : List Value) (o : Nat) (u : World) (k : Nat), k ≠ g → (u.setCells g o vs).heap[k]? = u.heap[k]?
  | [], _, _, _, _ => rfl
  | v :: r, o, u, k, hk => by rw [World.setCells, setCells_other g r _ _ _ hk, Below.heap_setCell _ _ _ _ hk]
theorem setCells_rest (g : Nat) : ∀ (vs : List Value) (o : Nat) (u : World), (u.setCells g o vs).os = u.os ∧ (u.setCells g o vs).tape = u.tape ∧ (u.setCells g o vs).output = u.output ∧ (u.setCells g o vs).heap.size = u.heap.size
  | [], _, _ => ⟨rfl, rfl, rfl, rfl⟩
  | v :: r, o, u => by
    rw [World.setCells]
    obtain ⟨a, b, c, d⟩ := setCells_rest g r (o + 1) (u.setCell ⟨g, o, none⟩ v)
    exact ⟨a, b, c, by rw [d]; simp⟩
theorem setCells_grown (g : Nat) (vs : List Value) (o : Nat) (u : World) : u.grownBy (u.setCells g o vs) (some g) := by
  obtain ⟨a, b, c, d⟩ := setCells_rest g vs o u
  exact ⟨a, b, c, by rw [d]; exact Nat.le_refl _, fun k _ hk => setCells_other g vs o u k (fun e => hk (by rw [e]))⟩

theorem addr_add (g j : Nat) : (⟨g, 0, none⟩ : Addr).add j = ⟨g, j, none⟩ := by simp [Addr.add]; omega

/-- 'append(v, x...)': the old cells, then the new ones; in v's own block or in a new one -/
theorem rw_append2 {w : World} {v x : Value} {n m : Nat} {news : List Value} {t tx : TypeId} (ty e : TypeId) (i : TypeInfo) (z : Value) (size bytes : Nat) (ht : Try.prog.underlying t = some (.slice e)) (hi : Try.prog.info? e = some i) (hz0 : i.zero = some z) (hz1 : i.size = size) (hz2 : i.bytes = bytes)
    (hzs : z.cells.size = size) (h : RW w size v n) (hs : Src Try.prog size tx x m news w) (hm : n + m ≤ maxLen) (hb : (n + m) * bytes ≤ 140737488355328) (hsz : 0 < size) :
    ∃ v' w', (Builtin.append_ #[t, tx] ty #[v, x]).run Try.prog w = .ok v' w' ∧ RW w' size v' (n + m) ∧ (∀ j, j < n * size → vc w' v' j = vc w v j) ∧ (∀ j, j < news.length → vc w' v' (n * size + j) = news[j]?) ∧
      w.grownBy w' v.ownBlock ∧ ((∃ a c, v = .slice a n c ∧ v' = .slice a (n + m) c) ∨ (v'.ownBlock = some w.heap.size ∧ w.grownBy w' none)) := by
  subst hz1
  subst hz2
  have hmx := hm
  unfold maxLen at hmx
  have hnl := hs.newsLen
  have grow : ∀ (base : Option Addr) (cap : Nat) (olds : List Value), olds.length = n * i.size → cap < n + m → (Builtin.firstCells i.size n (.slice base n cap)).run Try.prog w.drew = .ok olds.toArray w.drew → ∀ row,
      ∃ v' w', (Builtin.append_ #[t, tx] ty #[.slice base n cap, x]).run Try.prog w = .ok v' w' ∧ RW w' i.size v' (n + m) ∧ (∀ j, j < n * i.size → vc w' v' j = olds[j]?) ∧ (∀ j, j < news.length → vc w' v' (n * i.size + j) = news[j]?) ∧ w.grownBy w' row ∧ v'.ownBlock = some w.heap.size := by
    intro base cap olds hol hc hold row
    have hfit : Builtin.nextslicecap (n + m) cap * i.bytes ≤ 281474976710656 := growslice_fits hc hb
    have hr := run_append_grow_src (P := Try.prog) w t tx ty e i z ht hi hz0 base n cap olds hold x m news hs hc (by omega) hfit
    have hge := grownCap_ge w (n + m) cap e
    have hcm := grownCap_le_maxLen w (n + m) cap e hm
    obtain ⟨C, hC⟩ : ∃ C, (olds ++ news).toArray ++ Builtin.zeroCells z.cells (grownCap w (n + m) cap e - (n + m)) = C := ⟨_, rfl⟩
    have hsz : C.size = grownCap w (n + m) cap e * i.size := by
      rw [← hC]
      simp only [Array.size_append, List.size_toArray, List.length_append, size_zeroCells, hol, hnl, hzs, ← Nat.add_mul]
      rw [Nat.add_sub_cancel' hge]
    have hCo : ∀ j, j < n * i.size → C[j]? = olds[j]? := fun j hj => by
      rw [← hC, Array.getElem?_append_left (by simp; omega), List.getElem?_toArray, List.getElem?_append_left (by omega)]
    have hCn : ∀ j, j < news.length → C[n * i.size + j]? = news[j]? := fun j hj => by
      rw [← hC, Array.getElem?_append_left (by simp; omega), List.getElem?_toArray, List.getElem?_append_right (by omega), hol, Nat.add_sub_cancel_left]
    rw [hC] at hr
    have hnew : ∀ j, (w.drew.alloc (.cells C e)).cell? ⟨w.heap.size, j, none⟩ = C[j]? := fun j => World.cell?_alloc_mark w.drew _ _ _ j
    have hh : (w.drew.alloc (.cells C e)).heap[w.heap.size]? = some (.cells C e (0, 0)) := heap_alloc_new w.drew (.cells C e)
    refine ⟨_, _, hr, ?_, fun j hj => (hnew j).trans (hCo j hj), fun j hj => (hnew _).trans (hCn j hj), ⟨rfl, rfl, rfl, by simp, fun k hk _ => Below.heap_alloc w.drew _ k hk⟩, rfl⟩
    refine .inr ⟨w.heap.size, _, rfl, by simp, hge, hcm, fun j hj => ?_⟩
    rw [hnew]
    refine ⟨?_, ?_⟩
    · rw [Array.getElem?_eq_getElem (by rw [hsz]; exact hj)]; rfl
    · simp only [World.frozen?, hh]
      simp
  rcases h with ⟨rfl, rfl⟩ | ⟨g, cap, rfl, hg, h1, h2, h3⟩
  · by_cases h0 : m = 0
    · subst h0
      obtain rfl : news = [] := List.length_eq_zero_iff.1 (by simpa using hnl)
      refine ⟨.slice none 0 0, w, ?_, RW.nil w _, fun j hj => (by omega), fun j hj => (by cases hj), ⟨rfl, rfl, rfl, Nat.le_refl _, fun _ _ _ => rfl⟩, .inl ⟨none, 0, rfl, rfl⟩⟩
      have hl0 : ∀ w', (Builtin.lenOf (.slice none 0 0)).run Try.prog w' = .ok 0 w' := fun _ => rfl
      rcases hs.kind with ⟨e', hk⟩ | hk <;> simp [Builtin.append_, run_underlying ht, run_underlying hk, sizeOf, typeInfo, hi, hs.len, hs.cells, hl0]
    · obtain ⟨v', w', hr, hrw, _, hn, hgr, hown⟩ := grow none 0 [] (by simp) (by omega) (by simp [Builtin.firstCells, loadCells, loadCellsFrom]) none
      exact ⟨v', w', hr, hrw, fun j hj => by omega, hn, hgr, .inr ⟨hown, hgr⟩⟩
  · by_cases hroom : n + m ≤ cap
    · have hle : n * i.size + news.length ≤ cap * i.size := by rw [hnl, ← Nat.add_mul]; exact Nat.mul_le_mul_right _ hroom
      have hr := run_append_room_src (P := Try.prog) w t tx ty e i ht hi g 0 n cap x m news hs hroom
        (fun j hj => by have := (h3 (n * i.size + j) (by omega)).1; simpa using this) (fun j hj => by have := (h3 (n * i.size + j) (by omega)).2; simpa using this)
      rw [Nat.zero_add] at hr
      have hin : ∀ j, j < news.length → (w.cell? ⟨g, n * i.size + j, none⟩).isSome = true := fun j hj => (h3 _ (by omega)).1
      have hi2 := World.cell?_setCells_in g news (n * i.size) w hin
      have ho2 : ∀ j, j < n * i.size ∨ n * i.size + news.length ≤ j → (w.setCells g (n * i.size) news).cell? ⟨g, j, none⟩ = w.cell? ⟨g, j, none⟩ := fun j hj => World.cell?_setCells_out g news (n * i.size) w _ (fun _ _ => hj)
      refine ⟨_, _, hr, ?_, fun j hj => ho2 j (.inl hj), fun j hj => (hi2 j hj).trans (List.getElem?_eq_getElem hj).symm, setCells_grown g _ _ w, .inl ⟨_, cap, rfl, rfl⟩⟩
      refine .inr ⟨g, cap, rfl, by rw [(setCells_rest g news _ w).2.2.2]; exact hg, hroom, h2, fun j hj => ?_⟩
      rw [World.frozen?_setCells]
      refine ⟨?_, (h3 j hj).2⟩
      by_cases hjl : n * i.size ≤ j ∧ j < n * i.size + news.length
      · obtain ⟨q, rfl⟩ : ∃ q, j = n * i.size + q := ⟨j - n * i.size, by omega⟩
        rw [hi2 q (by omega)]
        rfl
      · rw [ho2 j (by omega)]
        exact (h3 j hj).1
    · obtain ⟨olds, hol, hat⟩ : ∃ olds : List Value, olds.length = n * i.size ∧ ∀ j (hj : j < olds.length), w.cell? ⟨g, j, none⟩ = some olds[j] := by
        have hcell : ∀ j, j < n * i.size → ∃ u, w.cell? ⟨g, j, none⟩ = some u := fun j hj => Option.isSome_iff_exists.1 (h3 j (Nat.lt_of_lt_of_le hj (Nat.mul_le_mul_right _ h1))).1
        refine ⟨(List.range (n * i.size)).map (fun j => (w.cell? ⟨g, j, none⟩).getD default), by simp, fun j hj => ?_⟩
        obtain ⟨u, hu⟩ := hcell j (by simpa using hj)
        simp [hu]
      obtain ⟨v', w', hr, hrw, ho, hn, hgr, hown⟩ := grow (some ⟨g, 0, none⟩) cap olds hol (by omega) (by
        refine run_firstCells_some (P := Try.prog) w.drew i.size n ⟨g, 0, none⟩ n cap olds hol (fun j u hu => ?_)
        rw [addr_add]
        obtain ⟨hj, rfl⟩ := List.getElem?_eq_some_iff.1 hu
        exact hat j hj) none
      have hgr' : w.grownBy w' (some g) := ⟨hgr.os, hgr.tape, hgr.output, hgr.size, fun k hk _ => hgr.block k hk (by simp)⟩
      exact ⟨v', w', hr, hrw, fun j hj => by rw [ho j hj, List.getElem?_eq_getElem (by omega)]; exact (hat j (by omega)).symm, hn, hgr', .inr ⟨hown, hgr⟩⟩

theorem rw_append {w : World} {v x : Value} {n m : Nat} {news : List Value} {t tx : TypeId} (ty e : TypeId) (i : TypeInfo) (z : Value) (size bytes : Nat) (ht : Try.prog.underlying t = some (.slice e)) (hi : Try.prog.info? e = some i) (hz0 : i.zero = some z) (hz1 : i.size = size) (hz2 : i.bytes = bytes)
    (hzs : z.cells.size = size) (h : RW w size v n) (hs : Src Try.prog size tx x m news w) (hm : n + m ≤ maxLen) (hb : (n + m) * bytes ≤ 140737488355328) (hsz : 0 < size) :
    ∃ v' w', (Builtin.append_ #[t, tx] ty #[v, x]).run Try.prog w = .ok v' w' ∧ RW w' size v' (n + m) ∧ (∀ j, j < n * size → vc w' v' j = vc w v j) ∧ (∀ j, j < news.length → vc w' v' (n * size + j) = news[j]?) ∧
      w.grownBy w' v.ownBlock ∧ (v'.ownBlock = v.ownBlock ∨ v'.ownBlock = some w.heap.size) := by
  obtain ⟨v', w', a, b, c, d, e, f⟩ := rw_append2 ty e i z size bytes ht hi hz0 hz1 hz2 hzs h hs hm hb hsz
  refine ⟨v', w', a, b, c, d, e, ?_⟩
  rcases f with ⟨a, c, e1, e2⟩ | f
  · left; rw [e1, e2]; cases a <;> rfl
  · right; exact f.1

/-! ### bytes -/

/-- The slice v holds the bytes l. -/
structure BR (w : World) (v : Value) (l : List UInt8) : Prop where
  rw : RW w 1 v l.length
  at' : ∀ j (hj : j < l.length), vc w v j = some (.int .u8 (l[j].toNat : Int))

theorem BR.nil (w : World) : BR w (.slice none 0 0) [] := ⟨RW.nil w 1, fun _ h => by cases h⟩
theorem BR.lt {w : World} {v : Value} {l : List UInt8} (h : BR w v l) : ∀ g, v.ownBlock = some g → g < w.heap.size := h.rw.lt
theorem BR.kept {w w' : World} {v : Value} {l : List UInt8} (h : BR w v l) (hk : ∀ g, v.ownBlock = some g → w'.heap[g]? = w.heap[g]?) : BR w' v l :=
  ⟨h.rw.kept hk, fun j hj => (vc_kept hk j).trans (h.at' j hj)⟩
theorem BR.tn {F : Nat → Prop} {w w' : World} {v : Value} {l : List UInt8} (h : BR w v l) (t : Tn F w w') (hn : ∀ g, v.ownBlock = some g → ¬ F g) : BR w' v l :=
  h.kept (fun g hg => t.block g (h.lt g hg) (hn g hg))
theorem BR.no {w w' : World} {v : Value} {l : List UInt8} (h : BR w v l) (t : Tn No w w') : BR w' v l := h.tn t (fun _ _ e => e)

theorem u8_info : (Try.prog.info? 5).map (fun i => (i.zero, i.size, i.bytes)) = some (some (.int .u8 0), 1, 1) := by kernel_rfl

/-- '[]byte(s)' -/
theorem br_new (w : World) (s : ByteArray) (hs : s.size ≤ maxLen) :
    BR (Lib.bytesWorld w 5 s) (.slice (some ⟨w.heap.size, 0, none⟩) s.size (grownCap w s.size 0 5)) s.data.toList ∧ Tn No w (Lib.bytesWorld w 5 s) := by
  have hge := grownCap_ge w s.size 0 5
  have hl : s.data.toList.length = s.size := by simp
  refine ⟨⟨.inr ⟨w.heap.size, grownCap w s.size 0 5, by rw [hl], by rw [Lib.bytesWorld_size]; omega, by omega, grownCap_le_maxLen w _ 0 _ hs, ?_⟩, ?_⟩, ?_⟩
  · intro j hj
    have hsz : (Lib.bytesCells w 5 s).size = grownCap w s.size 0 5 := by simp [Lib.bytesCells]; omega
    simp only [World.cell?, World.frozen?, Lib.bytesWorld_at_new, hsz]
    refine ⟨?_, ?_⟩
    · simp
      omega
    · simp; omega
  · intro j hj
    have := Lib.bytesWorld_cell w 5 s j (by omega)
    show World.cell? _ _ = _
    rw [this, List.getD_eq_getElem?_getD, List.getElem?_eq_getElem hj]
    rfl
  · refine ⟨?_, ?_, ?_, by rw [Lib.bytesWorld_size]; omega, fun k hk _ => Lib.bytesWorld_at_old w _ s k hk⟩
    all_goals (simp only [Lib.bytesWorld, World.freeze]; split <;> rfl)

/-- the slice v' is v made longer in its place, or lies in a new block -/
def Goes (w w' : World) (v v' : Value) : Prop := (∃ a n n' c, v = .slice a n c ∧ v' = .slice a n' c ∧ n ≤ n') ∨ (v'.ownBlock = some w.heap.size ∧ w.grownBy w' none)
theorem Goes.own {w w' : World} {v v' : Value} (h : Goes w w' v v') : v'.ownBlock = v.ownBlock ∨ v'.ownBlock = some w.heap.size := by
  rcases h with ⟨a, n, n', c, rfl, rfl, _⟩ | h
  · left; cases a <;> rfl
  · exact .inr h.1

/-- 'append(v, x...)' of bytes, from a string or a slice -/
theorem br_append2 {w : World} {v x : Value} {l s : List UInt8} {tx : TypeId} (ty : TypeId) (h : BR w v l) (hs : Src Try.prog 1 tx x s.length (bc s) w) (hb : l.length + s.length ≤ 70368744177664) :
    ∃ v' w', (Builtin.append_ #[40, tx] ty #[v, x]).run Try.prog w = .ok v' w' ∧ BR w' v' (l ++ s) ∧ w.grownBy w' v.ownBlock ∧ Goes w w' v v' := by
  obtain ⟨i, hi, hz0, hz1, hz2⟩ := info_parts u8_info
  obtain ⟨v', w', hr, hrw, ho, hn, hg, hown⟩ := rw_append2 ty 5 i (.int .u8 0) 1 1 Try.underlying40 hi hz0 hz1 hz2 rfl h.rw hs (by unfold maxLen; omega) (by omega) (by omega)
  refine ⟨v', w', hr, ⟨by rw [List.length_append]; exact hrw, fun j hj => ?_⟩, hg, ?_⟩
  · rw [List.length_append] at hj
    by_cases hjl : j < l.length
    · rw [ho j (by omega), h.at' j hjl, List.getElem_append_left hjl]
    · have := hn (j - l.length) (by rw [bc_length]; omega)
      rw [show l.length * 1 + (j - l.length) = j by omega] at this
      rw [this, bc, List.getElem?_map, List.getElem?_eq_getElem (by omega), List.getElem_append_right (by omega)]
      rfl
  · rcases hown with ⟨a, c, e1, e2⟩ | hown
    · exact .inl ⟨a, _, _, c, e1, e2, by omega⟩
    · exact .inr hown
theorem br_append {w : World} {v x : Value} {l s : List UInt8} {tx : TypeId} (ty : TypeId) (h : BR w v l) (hs : Src Try.prog 1 tx x s.length (bc s) w) (hb : l.length + s.length ≤ 70368744177664) :
    ∃ v' w', (Builtin.append_ #[40, tx] ty #[v, x]).run Try.prog w = .ok v' w' ∧ BR w' v' (l ++ s) ∧ w.grownBy w' v.ownBlock ∧ (v'.ownBlock = v.ownBlock ∨ v'.ownBlock = some w.heap.size) := by
  obtain ⟨v', w', a, b, c, d⟩ := br_append2 ty h hs hb
  exact ⟨v', w', a, b, c, d.own⟩

/-- a shorter slice over the same row -/
theorem BR.pre {w : World} {a : Option Addr} {n c k : Nat} {l : List UInt8} (h : BR w (.slice a n c) l) (hn : l.length = n) (hk : k ≤ n) (hnil : a = none → k = 0 ∧ c = 0) : BR w (.slice a k c) (l.take k) := by
  obtain ⟨hrw, hat⟩ := h
  have hl : (l.take k).length = k := by simp; omega
  refine ⟨?_, fun j hj => ?_⟩
  · rw [hl]
    rcases hrw with ⟨e, _⟩ | ⟨g, cap, e, hg, h1, h2, h3⟩
    · cases e
      obtain ⟨rfl, _⟩ := hnil rfl
      exact .inl ⟨rfl, rfl⟩
    · simp only [Value.slice.injEq] at e
      obtain ⟨rfl, _, rfl⟩ := e
      exact .inr ⟨g, c, rfl, hg, by omega, h2, h3⟩
  · have := hat j (by omega)
    rw [List.getElem_take]
    cases a <;> exact this

/-- v can still be read as n bytes -/
def Still (w : World) (v : Value) (n : Nat) : Prop := ∃ l : List UInt8, l.length = n ∧ BR w v l
/-- cur is v made longer in its place, or has nothing to do with it -/
def Rel (v cur : Value) (n : Nat) : Prop := (∃ a m c, v = .slice a n c ∧ cur = .slice a m c ∧ n ≤ m) ∨ (∀ g, cur.ownBlock = some g → v.ownBlock ≠ some g)
theorem Still.kept {w w' : World} {v : Value} {n : Nat} (h : Still w v n) (hk : ∀ g, v.ownBlock = some g → w'.heap[g]? = w.heap[g]?) : Still w' v n := by
  obtain ⟨l, e, h⟩ := h
  exact ⟨l, e, h.kept hk⟩
theorem Still.same {w w' : World} {a : Option Addr} {n m c : Nat} {l : List UInt8} (h : Still w (.slice a n c) n) (hm : n ≤ m) (hbr : BR w' (.slice a m c) l) : Still w' (.slice a n c) n := by
  obtain ⟨l0, e0, h0⟩ := h
  obtain ⟨a1, c1, e1, _, _, hnil, _⟩ := h0.rw.form
  obtain ⟨a2, c2, e2, _⟩ := hbr.rw.form
  simp only [Value.slice.injEq] at e1 e2
  obtain ⟨rfl, _, rfl⟩ := e1
  obtain ⟨rfl, hl, rfl⟩ := e2
  refine ⟨l.take n, by simp; omega, hbr.pre hl.symm hm (fun h => ?_)⟩
  have := hnil h
  omega
theorem Still.step {w w' : World} {v cur : Value} {n : Nat} {l : List UInt8} (h : Still w v n) (hg : w.grownBy w' cur.ownBlock) (hr : Rel v cur n) (hbr : BR w' cur l) : Still w' v n := by
  rcases hr with ⟨a, m, c, rfl, rfl, hm⟩ | hr
  · exact h.same hm hbr
  · obtain ⟨l0, e0, h0⟩ := h
    exact ⟨l0, e0, h0.kept (fun g hg' => hg.block g (h0.lt g hg') (fun e => hr g e.symm hg'))⟩
theorem Still.goes {w w' : World} {v cur cur' : Value} {n : Nat} {l : List UInt8} (h : Still w v n) (hg : w.grownBy w' cur.ownBlock) (hr : Rel v cur n) (hgo : Goes w w' cur cur') (hbr : BR w' cur' l) : Still w' v n ∧ Rel v cur' n := by
  rcases hgo with ⟨a, m, m', c, rfl, rfl, hm⟩ | ⟨hn, hg0⟩
  · rcases hr with ⟨a1, m1, c1, rfl, e1, hm1⟩ | hr
    · simp only [Value.slice.injEq] at e1
      obtain ⟨rfl, rfl, rfl⟩ := e1
      exact ⟨h.same (Nat.le_trans hm1 hm) hbr, .inl ⟨a, m', c, rfl, rfl, Nat.le_trans hm1 hm⟩⟩
    · obtain ⟨l0, e0, h0⟩ := h
      refine ⟨⟨l0, e0, h0.kept (fun g hg' => hg.block g (h0.lt g hg') (fun e => hr g e.symm hg'))⟩, .inr (fun g hg' => hr g ?_)⟩
      cases a <;> exact hg'
  · obtain ⟨l0, e0, h0⟩ := h
    refine ⟨⟨l0, e0, h0.kept (fun g hg' => hg0.block g (h0.lt g hg') (by simp))⟩, .inr (fun g hg' e => ?_)⟩
    rw [hn] at hg'
    cases hg'
    have := h0.lt _ e
    omega

/-- 'string(v)' -/
theorem br_string {w : World} {v : Value} {l : List UInt8} (h : BR w v l) : (convert 40 9 v).run Try.prog w = .ok (.string ⟨l.toArray⟩) w := by
  obtain ⟨hrw, hat⟩ := h
  rcases hrw with ⟨rfl, e⟩ | ⟨g, cap, rfl, hg, h1, h2, h3⟩
  · obtain rfl := List.length_eq_zero_iff.1 e
    exact run_convert_bytes_nil w 40 5 Try.underlying40 Try.underlying5 0 0 9 Try.underlying9
  · refine run_convert_bytes_back w 40 9 5 ⟨g, 0, none⟩ cap l Try.underlying40 Try.underlying5 Try.underlying9 (fun j hj => ?_)
    rw [addr_add]
    exact hat j hj
end Go.Proofs.Ytlkbnjdhokjfnaa
