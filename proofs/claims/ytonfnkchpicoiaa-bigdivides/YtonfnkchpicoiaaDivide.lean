/-
  divide, where the divisor is one limb or greater than what is divided.
-/
import Derived.Test.YtonfnkchpicoiaaDivBy
namespace Go.Proofs.Ytonfnkchpicoiaa
set_option linter.unusedSimpArgs false
set_option linter.unusedVariables false
open Go.RowKit
attribute [local go_sem ↓] Go.wp_at_zero Go.wp_at_succ

/-- Clone of limbs, at the head of a block of its own -/
def CloneRow (w : World) (l : List Nat) (e : Ending) (w' : World) : Prop :=
  ∃ g c, e = .returned (.slice (some ⟨g, 0, none⟩) l.length c) ∧ Row w' g l ∧ w.heap.size ≤ g ∧ l.length ≤ c ∧ c ≤ 9223372036854775807 ∧ w.grownBy w' none

set_option maxHeartbeats 400000 in
theorem clone_row (ad : Addr) (n c : Nat) (l : List Nat) (w : World) (hl : l.length = n) (hp : 0 < n) (hb : n ≤ 35184372088832)
    (hcell : ∀ j u, (cl l)[j]? = some u → w.cell? (ad.add j) = some u) : Calls Try.prog 45 #[.slice (some ad) n c] w (CloneRow w l) := by
  obtain ⟨i0, hi, hz0, hz1, hz2⟩ := info_parts u32_info
  have hnil := fun w => Lib.run_eql_slice_nil (P := Try.prog) w 22 47 (some ad) n c 0 0 Try.underlying22
  go_enter Try.func45, Try.ntmps45
  have hown : (w.alloc (.cells #[] 47)).ownsRow w.heap.size 47 1 (.slice (some ⟨w.heap.size, 0, none⟩) 0 0) 0 [] := World.ownsRow_made w #[] 0 (Nat.le_refl _) (by unfold maxLen; omega) rfl
  have hcell' : ∀ j u, (cl l)[j]? = some u → (w.alloc (.cells #[] 47)).cell? (ad.add j) = some u := fun j u h => (gb_alloc (gb_refl w none) _).cell (hcell j u h) (by simp)
  go_wp2_with (at_builtin; refine wpList_append_lies _ rfl (.tmp 5) (.tmp 6) 22 rfl w.heap.size 47 i0 (.int .u32 0) 1 4 Try.underlying22 hi hz0 hz1 hz2 rfl (by decide) _ 0 [] rfl hown ad n c (cl l) rfl (by simp [cl, hl]) hcell' (cl_one l) hp (by unfold maxLen; omega) (by omega) (by simp) (w.heap.size + 1) (by simp) ?_; intro g cap w1 hown1 hgrow hat hlt)
  go_ret
  simp only [List.nil_append, Nat.zero_add] at hown1
  obtain ⟨hr, hbg, _, hcap, hcm⟩ := Row.of_owns hown1
  subst hl
  refine ⟨g, cap, rfl, hr, hbg, hcap, hcm, ?_⟩
  refine gb_then (gb_alloc (gb_refl w none) _) hgrow ?_
  intro i e
  cases e
  exact Nat.le_refl _

theorem clone_row' (a : Option Addr) (n c : Nat) (l : List Nat) (w : World) (h : SL w a n c l) (hp : l ≠ []) :
    Calls Try.prog 45 #[.slice a n c] w (CloneRow w l) := by
  obtain ⟨hlen, hcap, hbig, hcm, hlim, hnil, b, off, ha, hcell⟩ := h
  have hpos := List.length_pos_iff.2 hp
  obtain ⟨rfl, _⟩ := ha (by omega)
  refine clone_row ⟨b, off, none⟩ n c l w hlen (by omega) hbig (fun j u hu => ?_)
  have hj : j < l.length := by
    have := (List.getElem?_eq_some_iff.1 hu).1
    simpa [cl] using this
  rw [cl_get l j hj] at hu
  have hadd : (⟨b, off, none⟩ : Addr).add j = ⟨b, off + j, none⟩ := by simp [Addr.add]
  rw [hadd, hcell j (by omega)]
  exact hu

/-- two slices lie in two blocks -/
def Apart (a : Option Addr) (n : Nat) (b : Option Addr) (m : Nat) : Prop := 0 < n → 0 < m → ∀ g o s g' o' s', a = some ⟨g, o, s⟩ → b = some ⟨g', o', s'⟩ → g ≠ g'

/-- what divide answers -/
def DivPost (w : World) (x y : List Nat) (e : Ending) (w' : World) : Prop :=
  ∃ aq nq cq Q ar nr cr R, e = .returned (.tuple #[.slice aq nq cq, .slice ar nr cr]) ∧ OW w' w.heap.size aq nq cq Q ∧ OW w' w.heap.size ar nr cr R ∧ Apart aq nq ar nr ∧
    val x = val Q * val y + val R ∧ val R < val y ∧ nq ≤ x.length ∧ nr ≤ x.length + 1 ∧ w.grownBy w' none

set_option maxHeartbeats 800000 in
theorem divide_lt (a b : Option Addr) (n m c d : Nat) (x y : List Nat) (w : World) (hx : SL w a n c x) (hy : SL w b m d y) (nx : Nrm x) (ny : Nrm y) (hz : x = [] → a = none) (hlt : val x < val y) :
    Calls Try.prog 57 #[.slice a n c, .slice b m d] w (DivPost w x y) := by
  have hsg : sgn ((val x : Int) - val y) < 0 := by unfold sgn; rw [if_pos (by omega)]; omega
  go_enter Try.func57, Try.ntmps57
  go_wp2_with (first
    | (go_at_call 49; refine (compare_raw a b n m c d x y _ hx hy nx ny).mono ?_; rintro e w1 ⟨rfl, hg1⟩)
    | (go_at_call 45; refine (clone_raw a n c x _ (by exact hx.grown hg1) hz).mono ?_; rintro e w2 ⟨a2, c2, rfl, ho2, hg2⟩))
  go_ret2
  refine ⟨none, 0, 0, [], a2, x.length, c2, x, rfl, OW.nil' _ _, ho2.mono hg1.size, fun h => by omega, by simp [val], hlt, by omega, by omega, gb_then hg1 hg2 (by simp)⟩

theorem row_one (w : World) (g m : Nat) (hg : w.heap.size = g) : Row (w.alloc (.cells #[.int .u32 (m : Int)] 47)) g ([m] ++ []) := by
  subst hg
  refine ⟨[], ?_⟩
  rw [heap_alloc_new]
  simp [cl]

set_option maxHeartbeats 800000 in
theorem divide_one (a b : Option Addr) (n c d dv : Nat) (x : List Nat) (w : World) (hx : SL w a n c x) (hy : SL w b 1 d [dv]) (nx : Nrm x) (hdv : 0 < dv) (hge : dv ≤ val x) :
    Calls Try.prog 57 #[.slice a n c, .slice b 1 d] w (DivPost w x [dv]) := by
  have hdl : dv < 4294967296 := hy.lim dv (by simp)
  have hvy : val [dv] = dv := by simp [val]
  have ny : Nrm [dv] := .inr (by simpa using (by omega : dv ≠ 0))
  have hsg : ¬ sgn ((val x : Int) - val [dv]) < 0 := by rw [hvy]; unfold sgn; rw [if_neg (by omega)]; split <;> omega
  have hxn : x ≠ [] := by intro e; rw [e] at hge; simp [val] at hge; omega
  have hy2 := hy
  obtain ⟨_, _, _, _, _, _, bb, ob, hb, hcb⟩ := hy2
  obtain ⟨rfl, hbl⟩ := hb (by omega)
  have hcy := hcb 0 (by omega)
  simp only [List.getD_cons_zero, Nat.add_zero] at hcy
  have hbig : x.length ≤ 35184372088832 := by rw [hx.len]; exact hx.big
  have hxl := hx.lim
  have HVY := hid hvy
  clear hcb hb hvy
  go_enter Try.func57, Try.ntmps57
  go_wp2_with (first
    | (go_at_call 49; refine (compare_raw a _ n 1 c d x [dv] _ hx hy nx ny).mono ?_; rintro e w1 ⟨rfl, hg1⟩)
    | (go_at_call 45; refine (clone_row' a n c x _ (by exact hx.grown hg1) hxn).mono ?_; rintro e w2 ⟨g2, c2, rfl, hr2, hB2, hc2, hm2, hg2⟩; have hcy2 := gb_cell hg2 (gb_cell hg1 hcy (by simp)) (by simp))
    | (go_at_call 73; refine (divideBy_raw g2 _ c2 dv x [] _ (by simpa using hr2) rfl hxl hbig hc2 hdv hdl).mono ?_; rintro e w3 ⟨N, r, rfl, hr3, hN, hNl, hrd, hv3, hg3⟩; have HV3 := hid hv3; clear hv3))
  go_ret2
  have hlen : x.length = n := hx.len
  have hrN : Row w3 g2 (N ++ []) := by simpa using hr3
  have hlt2 := hrN.lt
  have hz2 := hg2.size
  have hz1 := hg1.size
  have hz3 := hg3.size
  refine ⟨_, x.length, c2, N, _, 1, 1, [r], rfl, (OW.of_row hrN (by omega) (by omega) hc2 (by omega) hm2 hNl).kept (gb_alloc (gb_refl w3 none) _) (by simp), OW.of_row (row_one w3 _ r rfl) (by omega) rfl (Nat.le_refl _) (by omega) (by omega) (by intro z hz; simp at hz; omega), ?_, ?_, ?_, Nat.le_refl _, by omega, ?_⟩
  · intro _ _ g o s g' o' s' h1 h2
    cases h1; cases h2
    omega
  · rw [HVY.out, HV3.out]; simp [val]
  · rw [HVY.out]; simpa [val] using hrd
  · exact gb_alloc (gb_then (gb_then hg1 hg2 (by simp)) hg3 (fun i e => by cases e; omega)) _
end Go.Proofs.Ytonfnkchpicoiaa
