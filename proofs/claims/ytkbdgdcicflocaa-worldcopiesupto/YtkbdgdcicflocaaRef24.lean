/-
  The reference's New.
-/
import Derived.Test.YtkbdgdcicflocaaRef23
import Derived.Test.YtkbdgdcicflocaaNewAll
namespace Go.Proofs.Ytkbdgdcicflocaa
set_option linter.unusedSimpArgs false
set_option linter.unusedVariables false
open Go.RowKit
attribute [local go_sem ↓] Go.wp_at_zero Go.wp_at_succ

/-- the reference's world S at q, all its blocks new since w -/
def ROwn (w u : World) (q N : Nat) (S : St) : Prop := ∃ L, PR u q L N S ∧ Tn No w u ∧ ∀ k, L k ≠ none → w.heap.size ≤ k
def YOwn (w u : World) (q N : Nat) (S : St) : Prop := ∃ L, PY u q L N S ∧ Tn No w u ∧ ∀ k, L k ≠ none → w.heap.size ≤ k
theorem RY.mono {w : World} {q : Nat} {L : Nat → Option Lab} {N N' : Nat} {S : St} {fl : List (ByteArray × List UInt8)} {lv tv : Value} {bv : Nat → Value} (h : RY w q L N S fl lv tv bv) (hN : N ≤ N') : RY w q L N' S fl lv tv bv := by
  refine { h with tlen := ⟨Nat.le_trans h.tlen.1 hN, fun e he => Nat.le_trans (h.tlen.2 e he) hN⟩, lc := fun i hi => ?_, len := Nat.le_trans h.len hN }
  obtain ⟨a, b, c, e, f, g⟩ := h.lc i hi
  exact ⟨a, b, c, e, Nat.le_trans f hN, g⟩
theorem YOwn.no {w u u' : World} {q N : Nat} {S : St} (h : YOwn w u q N S) (t : Tn No u u') : YOwn w u' q N S := by
  obtain ⟨L, ⟨fl, lv, tv, bv, hx⟩, t0, hl⟩ := h
  exact ⟨L, ⟨fl, lv, tv, bv, hx.no t⟩, t0.then t, hl⟩
theorem YOwn.mono {w u : World} {q N N' : Nat} {S : St} (h : YOwn w u q N S) (hN : N ≤ N') : YOwn w u q N' S := by
  obtain ⟨L, ⟨fl, lv, tv, bv, hx⟩, r⟩ := h
  exact ⟨L, ⟨fl, lv, tv, bv, hx.mono hN⟩, r⟩
theorem YOwn.tn {w u : World} {q N : Nat} {S : St} (h : YOwn w u q N S) : Tn No w u := h.choose_spec.2.1
theorem YOwn.lft {w u u' : World} {p N' : Nat} {S' : St} {L : Nat → Option Lab} (t : Tn No w u) (hl : ∀ k, L k ≠ none → w.heap.size ≤ k) (h : YLft u p L u' N' S') : YOwn w u' p N' S' := by
  obtain ⟨L', a, b, c⟩ := h
  refine ⟨L', a, t.trans b (fun _ _ e => e) (fun i hi e => absurd (hl i e) (by omega)), fun k hk => ?_⟩
  rcases Nat.lt_or_ge k u.heap.size with h1 | h1
  · exact hl k (fun e => hk (c k h1 e))
  · exact Nat.le_trans t.size h1

theorem str_self (s : ByteArray) : str s.data.toList = s := by cases s; simp [str]

/-- a world as it is made -/
theorem zero_py (w : World) (s : ByteArray) : YOwn w (w.alloc (.cells #[.slice none 0 0, .string s, .slice none 0 0, .slice none 0 0] 76)) w.heap.size 0 (rawSt (fun _ => none) s) := by
  have hcell : ∀ i, (w.alloc (.cells #[.slice none 0 0, .string s, .slice none 0 0, .slice none 0 0] 76)).cell? ⟨w.heap.size, i, none⟩ = (#[.slice none 0 0, .string s, .slice none 0 0, .slice none 0 0] : Array Value)[i]? := fun i => by rw [World.cell?_alloc_new]
  refine ⟨upd (fun _ => none) w.heap.size (some .st), ⟨[], .slice none 0 0, .slice none 0 0, fun _ => .slice none 0 0, ?_⟩, (Tn.refl No w).alloc _, fun k hk => ?_⟩
  · refine { qlt := by simp, c0 := (hcell 0).trans rfl, c1 := (hcell 1).trans ?_, c2 := (hcell 2).trans rfl, c3 := (hcell 3).trans rfl, fz := fun i => ?_, labs := upd_same _ _ _, tr := ⟨RW.nil _ _, fun i e h => (by simp [rawSt] at h)⟩, labt := fun g h => (by cases h), tlen := ⟨Nat.le_refl _, fun e h => (by simp [rawSt] at h)⟩, row := RW.nil _ _, labl := fun g h => (by cases h), lc := fun i hi => (by simp at hi), len := Nat.le_refl _, lt := fun k hk => ?_, fs := ?_, up := List.Pairwise.nil, rd := Nat.zero_le _ }
    · show some (Value.string s) = some (Value.string (str (s.data.toList.drop 0)))
      rw [List.drop_zero, str_self]
    · have hh := heap_alloc_new w (.cells #[.slice none 0 0, .string s, .slice none 0 0, .slice none 0 0] 76)
      simp only [World.frozen?, hh]
      simp
    · by_cases e : k = w.heap.size
      · subst e; simp
      · rw [upd_other _ _ e] at hk; exact absurd rfl hk
    · funext x; rfl
  · by_cases e : k = w.heap.size
    · omega
    · rw [upd_other _ _ e] at hk; exact absurd rfl hk

theorem yown_find {w u : World} {q N : Nat} {S : St} (h : YOwn w u q N S) (nm : ByteArray) (hN : N ≤ 1099511627776) : ∃ i : Int, (i < 0 ↔ S.has nm = false) ∧ ∀ u', Tn No u u' → Calls Try.prog 30 #[.pointer (some ⟨q, 0, none⟩), .string nm] u' fun e v => e = .returned (.int .i64 i) ∧ v = u' := by
  obtain ⟨L, ⟨fl, lv, tv, bv, hx⟩, _⟩ := h
  exact ⟨findAt fl nm, findAt_has hx.fs nm, fun u' t => yfind_raw u' q L N S fl lv tv bv (hx.no t) nm hN⟩

/-- a block that is nobody's is given a name -/
theorem RY.name {w : World} {q : Nat} {L : Nat → Option Lab} {N : Nat} {S : St} {fl : List (ByteArray × List UInt8)} {lv tv : Value} {bv : Nat → Value} (h : RY w q L N S fl lv tv bv) (g : Nat) (hg : g < w.heap.size) (hL : L g = none) (x : Lab) : RY w q (upd L g (some x)) N S fl lv tv bv := by
  have hub : ∀ k y, L k = some y → upd L g (some x) k = some y := fun k y e => by
    by_cases ek : k = g
    · subst ek; rw [hL] at e; cases e
    · rw [upd_other _ _ ek]; exact e
  refine { h with labs := hub _ _ h.labs, labt := fun k e => hub _ _ (h.labt k e), labl := fun k e => hub _ _ (h.labl k e), lc := fun i hi => ?_, lt := fun k hk => ?_ }
  · obtain ⟨a, b, c, e, f, g⟩ := h.lc i hi
    exact ⟨a, b, c, fun k hk => hub _ _ (e k hk), f, g⟩
  · by_cases ek : k = g
    · subst ek; exact hg
    · rw [upd_other _ _ ek] at hk; exact h.lt k hk

theorem yown_lay {w u u1 : World} {q N : Nat} {S : St} (h : YOwn w u q N S) (t1 : Tn No u u1) (nm : ByteArray) (hno : S.has nm = false) (g cap : Nat) (l : List UInt8) (n : Nat) (hN : N + 1 ≤ 1099511627776) (hv : BR u1 (.slice (some ⟨g, 0, none⟩) n cap) l) (hgl : u.heap.size ≤ g) (hll : l.length ≤ N + 1) (hnm : nm.size ≤ 255) :
    Calls Try.prog 31 #[.pointer (some ⟨q, 0, none⟩), .string nm, .slice (some ⟨g, 0, none⟩) n cap] u1 fun e u' => e = .returned (.tuple #[]) ∧ YOwn w u' q (N + 1) (S.put nm.data.toList l) := by
  obtain ⟨L, ⟨fl, lv, tv, bv, hx⟩, t, hl⟩ := h
  have hL : L g = none := by
    cases e : L g with
    | none => rfl
    | some x => have := hx.lt g (by rw [e]; simp); omega
  have hx1 := (hx.no t1).name g (hv.lt g rfl) hL (.fl nm.data.toList)
  have hgw : w.heap.size ≤ g := Nat.le_trans t.size hgl
  refine (ylay_raw u1 q _ N S ⟨_, _, _, _, hx1⟩ hN nm _ n cap l hno hv (fun k hk => by cases hk; exact upd_same _ _ _) hll hnm).mono (fun e u' ⟨h1, h2⟩ => ⟨h1, ?_⟩)
  refine YOwn.lft (t.then t1) (fun k hk => ?_) h2
  by_cases e1 : k = g
  · omega
  · rw [upd_other _ _ e1] at hk; exact hl k hk
end Go.Proofs.Ytkbdgdcicflocaa
