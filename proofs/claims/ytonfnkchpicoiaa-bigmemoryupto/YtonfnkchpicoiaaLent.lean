/-
  The law's lent, over, stays; the reference's Mod.
-/
import Derived.Test.YtonfnkchpicoiaaDivides
import Derived.Deep.DeepAppendRoom
import Derived.Laws.AppendOwnNone
namespace Go.Proofs.Ytonfnkchpicoiaa
set_option linter.unusedSimpArgs false
set_option linter.unusedVariables false
open Go.RowKit
attribute [local go_sem ↓] Go.wp_at_zero Go.wp_at_succ

/-- make([]uint32, 0, k) -/
theorem make_cap (k : Nat) (hk : k ≤ 70368744177664) (w : World) :
    (Instr.makeSlice 22 (.int .i64 0) (.int .i64 (k : Int))).run Try.prog w = .ok (.slice (some ⟨w.heap.size, 0, none⟩) 0 k) (w.alloc (.cells (madeCells #[.int .u32 0] k) 47)) := by
  obtain ⟨i0, hi, hz0, hz1, hz2⟩ := info_parts u32_info
  have h := run_make (P := Try.prog) w 22 47 i0 (.int .u32 0) Try.underlying22 hi hz0 .i64 .i64 0 (k : Int) (by omega) (by omega) (by rw [hz2]; omega) (by omega)
  rw [Int.toNat_natCast, hz1] at h
  simpa [Value.cells] using h

/-- a block that was there is there, but for one -/
theorem box_kept2 {w w1 : World} {g : Nat} (k : Nat) (h : w.grownBy w1 (some g)) (hk : k < w.heap.size) (hne : k ≠ g) : (∀ o, w1.cell? ⟨k, o, none⟩ = w.cell? ⟨k, o, none⟩) ∧ (∀ o, w1.frozen? ⟨k, o, none⟩ = w.frozen? ⟨k, o, none⟩) ∧ k < w1.heap.size :=
  ⟨fun _ => World.cell?_of_block (w := w) (h.block k hk (by simpa using hne)), fun _ => World.frozen?_of_block (w := w) (h.block k hk (by simpa using hne)), Nat.lt_of_lt_of_le hk h.size⟩

/-- what is owned, with two spare cells behind it -/
theorem own_spare2 {w : World} {B g n : Nat} {x : List Nat} (h : w.ownsRow B 47 1 (.slice (some ⟨g, 0, none⟩) n (n + 2)) n (cl x)) : ∃ p q : Value, w.heap[g]? = some (.cells (cl x ++ [p, q]).toArray 47 (0, 0)) ∧ x.length = n := by
  have hl : x.length = n := by have := h.1; simpa [cl] using this
  rcases h.2 with ⟨hv, _⟩ | ⟨g', cap, cur, hv, hb, hg, hnc, hcm, hcs, ht⟩
  · cases hv
  · cases hv
    have e := List.take_append_drop (n * 1) cur.toList
    rw [ht] at e
    have hd : (cur.toList.drop (n * 1)).length = 2 := by rw [List.length_drop, Array.length_toList, hcs]; omega
    obtain ⟨p, q, hpq⟩ : ∃ p q, cur.toList.drop (n * 1) = [p, q] := by
      match hm : cur.toList.drop (n * 1) with
      | [p, q] => exact ⟨p, q, rfl⟩
      | [] => rw [hm] at hd; simp at hd
      | [_] => rw [hm] at hd; simp at hd
      | _ :: _ :: _ :: _ => rw [hm] at hd; simp at hd
    rw [hpq] at e
    refine ⟨p, q, ?_, hl⟩
    rw [e]
    simpa using hg
theorem spare_set {w : World} {g n : Nat} {x : List Nat} {p q : Value} (h : w.heap[g]? = some (.cells (cl x ++ [p, q]).toArray 47 (0, 0))) (hl : x.length = n) :
    Row ((w.setCell ⟨g, n, none⟩ (.int .u32 77)).setCell ⟨g, n + 1, none⟩ (.int .u32 78)) g (x ++ [77, 78]) := by
  refine ⟨[], ?_⟩
  have h1 : (w.setCell ⟨g, n, none⟩ (.int .u32 77)).heap[g]? = some (.cells (cl x ++ [.int .u32 77, q]).toArray 47 (0, 0)) := by
    simp only [World.setCell, Array.getElem?_modify, h]
    simp only [if_true, Option.map_some, Option.some.injEq, Obj.cells.injEq, and_true, Option.isSome_none, Bool.false_eq_true, if_false]
    rw [List.setIfInBounds_toArray, List.set_append_right _ _ (by rw [cl_length]; omega), cl_length, hl, Nat.sub_self]
    rfl
  generalize w.setCell ⟨g, n, none⟩ (.int .u32 77) = w1 at *
  simp only [World.setCell, Array.getElem?_modify, h1]
  simp only [if_true, Option.map_some, Option.some.injEq, Obj.cells.injEq, and_true, Option.isSome_none, Bool.false_eq_true, if_false]
  rw [List.setIfInBounds_toArray, List.set_append_right _ _ (by rw [cl_length]; omega), cl_length, hl, Nat.add_sub_cancel_left, List.append_nil, cl_append]
  rfl
theorem spare_cells {w : World} {g n : Nat} {x : List Nat} {p q : Value} (h : w.heap[g]? = some (.cells (cl x ++ [p, q]).toArray 47 (0, 0))) (hl : x.length = n) :
    w.cell? ⟨g, n, none⟩ = some p ∧ w.cell? ⟨g, n + 1, none⟩ = some q ∧ ∀ o, w.frozen? ⟨g, o, none⟩ = false := by
  refine ⟨?_, ?_, ?_⟩
  · simp only [World.cell?, h]
    have : (cl x ++ [p, q])[n]? = some p := by rw [List.getElem?_append_right (by rw [cl_length]; omega), cl_length, hl, Nat.sub_self]; rfl
    simpa using this
  · simp only [World.cell?, h]
    have : (cl x ++ [p, q])[n + 1]? = some q := by rw [List.getElem?_append_right (by rw [cl_length]; omega), cl_length, hl, Nat.add_sub_cancel_left]; rfl
    simpa using this
  · intro o
    simp [World.frozen?, h]

def LentPost (w : World) (s : Bool) (x : List Nat) (e : Ending) (w' : World) : Prop :=
  ∃ g, e = .returned (.agg #[.bool s, .slice (some ⟨g, 0, none⟩) x.length (x.length + 2)]) ∧ Row w' g (x ++ [77, 78]) ∧ w.heap.size ≤ g ∧ w.grownBy w' none

theorem lent_end {w w3 : World} {h g n n1 n2 : Nat} {x : List Nat} {s : Bool} {p q v0 v1 : Value} (e1 : n1 = n + 1) (e2 : n2 = n + 2) (hg : w.grownBy w3 none) (hr : w3.heap[g]? = some (.cells (cl x ++ [p, q]).toArray 47 (0, 0))) (hl : x.length = n) (hw : w.heap.size ≤ h) (hB : w.heap.size ≤ g) (hne : h ≠ g) :
    LentPost w s x (.returned (.agg #[.bool s, .slice (some ⟨g, 0, none⟩) n n2])) ((((w3.setCell ⟨g, n, none⟩ (.int .u32 77)).setCell ⟨g, n1, none⟩ (.int .u32 78)).setCell ⟨h, 0, none⟩ v0).setCell ⟨h, 1, none⟩ v1) := by
  have h1 := spare_set hr hl
  subst hl
  subst e1
  subst e2
  refine ⟨g, rfl, ?_, hB, ?_⟩
  · exact h1.kept (gb_set (gb_set (gb_refl _ (some h)) _ _ (.inl rfl)) _ _ (.inl rfl)) (by simpa using hne)
  · exact gb_set (gb_set (gb_set (gb_set hg _ _ (.inr hB)) _ _ (.inr hB)) _ _ (.inr hw)) _ _ (.inr hw)

set_option maxHeartbeats 1600000 in
theorem lent_raw (s : Bool) (a : Option Addr) (n c : Nat) (x : List Nat) (w : World) (hx : SL w a n c x) (hn : n + 2 ≤ 35184372088832) :
    Calls Try.prog 39 #[.agg #[.bool s, .slice a n c]] w (LentPost w s x) := by
  obtain ⟨i0, hi, hz0, hz1, hz2⟩ := info_parts u32_info
  have hxl := hx.len
  have hmk := fun u => make_cap (n + 2) (by omega) u
  have ec : ((n + 2 : Nat) : Int) = (n : Int) + 2 := by omega
  rw [ec] at hmk
  have hne1 : ¬ (w.heap.size + 1 + 1 = w.heap.size) := by omega
  have hne2 : ¬ (w.heap.size + 1 + 1 = w.heap.size + 1) := by omega
  have hne3 : ¬ (w.heap.size + 1 = w.heap.size + 1 + 1) := by omega
  have hne4 : ¬ (w.heap.size = w.heap.size + 1 + 1) := by omega
  have hown := World.ownsRow_made (base := w.heap.size) (e := 47) (size := 1) ((w.alloc (.cells #[.bool s, .slice a n c] 24)).alloc (.cells #[.bool false, .slice none 0 0] 24)) (madeCells #[.int .u32 0] (n + 2)) (n + 2) (by simp; omega) (by unfold maxLen; omega) (by rw [← Array.length_toList, toList_madeCells_one]; simp)
  have hsz : ((w.alloc (.cells #[.bool s, .slice a n c] 24)).alloc (.cells #[.bool false, .slice none 0 0] 24)).heap.size = w.heap.size + 1 + 1 := by simp
  rw [hsz] at hown
  by_cases hn0 : a = none
  · obtain ⟨rfl, rfl⟩ := hx.nil hn0
    subst hn0
    obtain rfl : x = [] := List.length_eq_zero_iff.1 hxl
    have hown2 : (((w.alloc (.cells #[.bool s, .slice none 0 0] 24)).alloc (.cells #[.bool false, .slice none 0 0] 24)).alloc (.cells (madeCells #[.int .u32 0] 2) 47)).ownsRow w.heap.size 47 1 (.slice (some ⟨w.heap.size + 1 + 1, 0, none⟩) 0 2) 0 (cl []) := hown
    have hmk0 : ∀ u : World, (Instr.makeSlice 22 (.int .i64 0) (.int .i64 2)).run Try.prog u = .ok (.slice (some ⟨u.heap.size, 0, none⟩) 0 2) (u.alloc (.cells (madeCells #[.int .u32 0] 2) 47)) := fun u => make_cap 2 (by omega) u
    obtain ⟨p, q, hpq, _⟩ := own_spare2 hown2
    obtain ⟨hc1, hc2, hc3⟩ := spare_cells (n := 0) hpq rfl
    have hc3' := hc3 0
    have hc3'' := hc3 1
    have G3 : w.grownBy (((w.alloc (.cells #[.bool s, .slice none 0 0] 24)).alloc (.cells #[.bool false, .slice none 0 0] 24)).alloc (.cells (madeCells #[.int .u32 0] 2) 47)) none := gb_alloc (gb_alloc (gb_alloc (gb_refl _ _) _) _) _
    have B1 : Bx (((w.alloc (.cells #[.bool s, .slice none 0 0] 24)).alloc (.cells #[.bool false, .slice none 0 0] 24)).alloc (.cells (madeCells #[.int .u32 0] 2) 47)) (w.heap.size + 1) (.bool false) (.slice none 0 0) := (Bx.new (w.alloc (.cells #[.bool s, .slice none 0 0] 24)) _ _ _ 24 (by simp)).kept (gb_alloc (gb_refl _ none) _) (by simp)
    have B0 : Bx (((w.alloc (.cells #[.bool s, .slice none 0 0] 24)).alloc (.cells #[.bool false, .slice none 0 0] 24)).alloc (.cells (madeCells #[.int .u32 0] 2) 47)) w.heap.size (.bool s) (.slice none 0 0) := (Bx.new w _ _ _ 24 rfl).kept (gb_alloc (gb_alloc (gb_refl _ none) _) _) (by simp)
    have b00 := B0.c0
    have b01 := B0.c1
    have b02 := B0.lt
    have b10 := B1.c0
    have b11 := B1.c1
    have b12 := B1.f0
    have b13 := B1.f1
    have b14 := B1.lt
    clear hown hmk hsz
    go_enter Try.func39, Try.ntmps39
    go_wp2_with (at_builtin; refine wpList_append_own_none rfl (.tmp 10) (.tmp 12) 22 rfl w.heap.size 47 i0 1 Try.underlying22 hi (.slice (some ⟨w.heap.size + 1 + 1, 0, none⟩) 0 2) 0 [] rfl hown2 rfl ?_; generalize ((w.alloc (.cells #[.bool s, .slice none 0 0] 24)).alloc (.cells #[.bool false, .slice none 0 0] 24)).alloc (.cells (madeCells #[.int .u32 0] 2) 47) = w3 at *)
    have D1 := ((B1.kept (gb_set (gb_set (gb_refl _ (some (w.heap.size + 1 + 1))) ⟨w.heap.size + 1 + 1, 0, none⟩ (.int .u32 77) (.inl rfl)) ⟨w.heap.size + 1 + 1, 1, none⟩ (.int .u32 78) (.inl rfl)) (by simp)).put (.bool s) (.slice (some ⟨w.heap.size + 1 + 1, 0, none⟩) 0 2))
    refine bodyPost_ret (v := .agg #[.bool s, .slice (some ⟨w.heap.size + 1 + 1, 0, none⟩) 0 2]) (by simp [results, Try.results39, go_sem, D1.c0, D1.c1]) rfl ?_
    exact lent_end (n := 0) (n1 := 1) (n2 := 2) rfl rfl G3 hpq rfl (by omega) (by omega) (by omega)
  · obtain ⟨ad, rfl⟩ : ∃ ad, a = some ad := by cases a with | none => exact absurd rfl hn0 | some ad => exact ⟨ad, rfl⟩
    have hnews : ∀ j u, (cl x)[j]? = some u → (((w.alloc (.cells #[.bool s, .slice (some ad) n c] 24)).alloc (.cells #[.bool false, .slice none 0 0] 24)).alloc (.cells (madeCells #[.int .u32 0] (n + 2)) 47)).cell? (ad.add j) = some u := by
      intro j u hu
      have hj : j < x.length := by
        have := (List.getElem?_eq_some_iff.1 hu).1
        simpa [cl] using this
      rw [cl_get x j hj] at hu
      obtain ⟨b, off, ha, hc⟩ := hx.at'
      have := (ha (by omega)).1
      cases this
      have hadd : (⟨b, off, none⟩ : Addr).add j = ⟨b, off + j, none⟩ := by simp [Addr.add]
      rw [hadd, ← hu]
      exact gb_cell (gb_alloc (gb_alloc (gb_alloc (gb_refl w none) _) _) _) (hc j (by omega)) (by simp)
    have HNEWS := hid hnews
    clear hnews
    have B1 : Bx (((w.alloc (.cells #[.bool s, .slice (some ad) n c] 24)).alloc (.cells #[.bool false, .slice none 0 0] 24)).alloc (.cells (madeCells #[.int .u32 0] (n + 2)) 47)) (w.heap.size + 1) (.bool false) (.slice none 0 0) := (Bx.new (w.alloc (.cells #[.bool s, .slice (some ad) n c] 24)) _ _ _ 24 (by simp)).kept (gb_alloc (gb_refl _ none) _) (by simp)
    have G3 : w.grownBy (((w.alloc (.cells #[.bool s, .slice (some ad) n c] 24)).alloc (.cells #[.bool false, .slice none 0 0] 24)).alloc (.cells (madeCells #[.int .u32 0] (n + 2)) 47)) none := gb_alloc (gb_alloc (gb_alloc (gb_refl _ _) _) _) _
    go_enter Try.func39, Try.ntmps39
    go_wp2_with (at_builtin; refine wpList_append_own_spare _ rfl (.tmp 10) (.tmp 12) 22 rfl w.heap.size 47 i0 1 Try.underlying22 hi hz1 (w.heap.size + 1 + 1) 0 (n + 2) [] rfl hown ad n c (cl x) rfl (by rw [cl_length]; omega) HNEWS.out (cl_one x) (by omega) ?_; intro w3 hown3 hg3; obtain ⟨p, q, hpq, _⟩ := own_spare2 (n := n) (x := x) (by simpa using hown3); obtain ⟨hc1, hc2, hc3⟩ := spare_cells (n := n) hpq hxl; have hc3' := hc3 n; have hc3'' := hc3 (n + 1); obtain ⟨k0, m0, j0⟩ := box_kept2 w.heap.size hg3 (by first | (simp; done) | (simp; omega) | omega) (by omega); obtain ⟨k1, m1, j1⟩ := box_kept2 (w.heap.size + 1) hg3 (by first | (simp; done) | (simp; omega) | omega) (by omega); clear hc3 hown3)
    have D1 := (((B1.kept hg3 (by simp)).kept (gb_set (gb_set (gb_refl _ (some (w.heap.size + 1 + 1))) ⟨w.heap.size + 1 + 1, n, none⟩ (.int .u32 77) (.inl rfl)) ⟨w.heap.size + 1 + 1, n + 1, none⟩ (.int .u32 78) (.inl rfl)) (by simp)).put (.bool s) (.slice (some ⟨w.heap.size + 1 + 1, 0, none⟩) n (n + 2)))
    refine bodyPost_ret (v := .agg #[.bool s, .slice (some ⟨w.heap.size + 1 + 1, 0, none⟩) n (n + 2)]) (by simp [results, Try.results39, go_sem, D1.c0, D1.c1]) rfl ?_
    exact lent_end rfl rfl (gb_then G3 hg3 (fun i e => by cases e; omega)) hpq hxl (by omega) (by omega) (by omega)
end Go.Proofs.Ytonfnkchpicoiaa
