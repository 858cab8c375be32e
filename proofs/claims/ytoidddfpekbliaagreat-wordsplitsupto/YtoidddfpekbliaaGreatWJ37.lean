/-
  word: which blocks of a graph are come to, where there is one block.
-/
import Derived.Test.YtoidddfpekbliaaGreatWGraph2
import Derived.Shelf.Abstract
namespace Go.Proofs.YtoidddfpekbliaaGreat
set_option linter.unusedSimpArgs false
set_option linter.unusedVariables false
open Go.RowKit
attribute [local go_sem ↓] Go.wp_at_zero Go.wp_at_succ

/-- what the loop keeps: j blocks are left -/
structure RHJ (w : World) (gp bb cap b0 : Nat) (cv : Value) (t : Int) (j : Nat) (wr : World) : Prop where
  g : CN wr gp 2 (gc cv bb cap)
  b : CN wr bb 11 (bk 0 t false true)
  p : wr.cell? ⟨b0, 0, none⟩ = some (.pointer (some ⟨gp, 0, none⟩))
  x : wr.cell? ⟨b0 + 1, 0, none⟩ = some (.int .i32 0)
  n : wr.cell? ⟨b0 + 1 + 1, 0, none⟩ = some (.slice (some ⟨b0 + 1, 0, none⟩) j 1)
  f : wr.frozen? ⟨b0 + 1 + 1, 0, none⟩ = false
  tn : Tn No w wr
  gl : gp < b0
  bl : bb < b0
  wl : w.heap.size ≤ b0
theorem RHJ.step {w wr : World} {gp bb cap b0 i j : Nat} {cv : Value} {t : Int} (h : RHJ w gp bb cap b0 cv t i wr) : RHJ w gp bb cap b0 cv t j (wr.setCell ⟨b0 + 1 + 1, 0, none⟩ (.slice (some ⟨b0 + 1, 0, none⟩) j 1)) := by
  have gl := h.gl
  have bl := h.bl
  have wl := h.wl
  refine ⟨h.g.kept (Below.heap_setCell _ _ _ _ (by simp only; omega)), h.b.kept (Below.heap_setCell _ _ _ _ (by simp only; omega)), ?_, ?_, ?_, by rw [World.frozen?_setCell]; exact h.f, h.tn.set _ _ (fun e => by simp only at e; omega), gl, bl, wl⟩
  · rw [World.cell?_setCell_other _ _ _ _ (by intro e; cases e)]; exact h.p
  · rw [World.cell?_setCell_other _ _ _ _ (by intro e; cases e)]; exact h.x
  · exact World.cell?_setCell_same _ _ _ h.n

/-- the world ahead of the loop -/
structure RHX (w0 : World) (gp bb cap b0 : Nat) (cv : Value) (t : Int) (wr : World) : Prop where
  g : CN wr gp 2 (gc cv bb cap)
  b : CN wr bb 11 (bk 0 t false false)
  g1 : wr.cell? ⟨gp, 1, none⟩ = some (.slice (some ⟨bb, 0, none⟩) 1 cap)
  c7 : wr.cell? ⟨bb, 7, none⟩ = some (.bool false)
  b7 : wr.frozen? ⟨bb, 7, none⟩ = false
  p : wr.cell? ⟨b0, 0, none⟩ = some (.pointer (some ⟨gp, 0, none⟩))
  x : wr.cell? ⟨b0 + 1, 0, none⟩ = some (.int .i32 0)
  n : wr.cell? ⟨b0 + 1 + 1, 0, none⟩ = some (.slice (some ⟨b0 + 1, 0, none⟩) 1 1)
  f : wr.frozen? ⟨b0 + 1 + 1, 0, none⟩ = false
  tn : Tn No w0 wr
  lt : b0 + 2 < wr.heap.size
theorem rhx_new {w0 w : World} {gp bb cap : Nat} {cv : Value} {t : Int} (hg : CN w gp 2 (gc cv bb cap)) (hb : CN w bb 11 (bk 0 t false false)) (hg0 : w0.heap.size ≤ gp) (hb0 : w0.heap.size ≤ bb) (t0 : Tn No w0 w) (T1 T2 T3 : TypeId) :
    RHX w0 gp bb cap w.heap.size cv t (((w.alloc (.cells #[.pointer (some ⟨gp, 0, none⟩)] T1)).alloc (.cells #[.int .i32 0] T2)).alloc (.cells #[.slice (some ⟨w.heap.size + 1, 0, none⟩) 1 1] T3)) := by
  have h1 := CB.new w #[.pointer (some ⟨gp, 0, none⟩)] T1
  have h2 := CB.new (w.alloc (.cells #[.pointer (some ⟨gp, 0, none⟩)] T1)) #[.int .i32 0] T2
  have h3 := CB.new ((w.alloc (.cells #[.pointer (some ⟨gp, 0, none⟩)] T1)).alloc (.cells #[.int .i32 0] T2)) #[.slice (some ⟨w.heap.size + 1, 0, none⟩) 1 1] T3
  have s1 : (w.alloc (.cells #[.pointer (some ⟨gp, 0, none⟩)] T1)).heap.size = w.heap.size + 1 := by simp
  have s2 : ((w.alloc (.cells #[.pointer (some ⟨gp, 0, none⟩)] T1)).alloc (.cells #[.int .i32 0] T2)).heap.size = w.heap.size + 1 + 1 := by simp
  rw [s1] at h2
  rw [s2] at h3
  have T : Tn No w (((w.alloc (.cells #[.pointer (some ⟨gp, 0, none⟩)] T1)).alloc (.cells #[.int .i32 0] T2)).alloc (.cells #[.slice (some ⟨w.heap.size + 1, 0, none⟩) 1 1] T3)) := (((Tn.refl No w).alloc _).alloc _).alloc _
  have G := hg.no T
  have B := hb.no T
  have k1 := (h1.kept (Below.heap_alloc _ _ _ h1.lt)).kept (w' := (((w.alloc (.cells #[.pointer (some ⟨gp, 0, none⟩)] T1)).alloc (.cells #[.int .i32 0] T2)).alloc (.cells #[.slice (some ⟨w.heap.size + 1, 0, none⟩) 1 1] T3))) (Below.heap_alloc _ _ _ (by rw [s2]; omega))
  have k2 := h2.kept (w' := (((w.alloc (.cells #[.pointer (some ⟨gp, 0, none⟩)] T1)).alloc (.cells #[.int .i32 0] T2)).alloc (.cells #[.slice (some ⟨w.heap.size + 1, 0, none⟩) 1 1] T3))) (Below.heap_alloc _ _ _ (by rw [s2]; omega))
  exact ⟨G, B, G.cell 1 (by omega), B.cell 7 (by omega), B.froz 7 (by omega), k1.cell 0 (by simp), k2.cell 0 (by simp), h3.cell 0 (by simp), h3.froz 0, t0.then T, by simp⟩

theorem RHX.start {w0 wr : World} {gp bb cap b0 : Nat} {cv : Value} {t : Int} (h : RHX w0 gp bb cap b0 cv t wr) (gl : gp < b0) (bl : bb < b0) (wl : w0.heap.size ≤ b0) (hne : bb ≠ gp) (hb0 : w0.heap.size ≤ bb) : RHJ w0 gp bb cap b0 cv t 1 (wr.setCell ⟨bb, 7, none⟩ (.bool true)) := by
  refine ⟨h.g.kept (Below.heap_setCell _ _ _ _ (by simp only; omega)), (h.b.set 7 (by omega) _).congr (fun i hi => ?_), ?_, ?_, ?_, by rw [World.frozen?_setCell]; exact h.f, h.tn.set _ _ (fun e => by simp only at e; omega), gl, bl, wl⟩
  · have : i = 0 ∨ i = 1 ∨ i = 2 ∨ i = 3 ∨ i = 4 ∨ i = 5 ∨ i = 6 ∨ i = 7 ∨ i = 8 ∨ i = 9 ∨ i = 10 := by omega
    rcases this with rfl | rfl | rfl | rfl | rfl | rfl | rfl | rfl | rfl | rfl | rfl <;> first | rfl | (simp [upd, bk])
  · rw [World.cell?_setCell_other _ _ _ _ (by intro e; cases e)]; exact h.p
  · rw [World.cell?_setCell_other _ _ _ _ (by intro e; cases e)]; exact h.x
  · rw [World.cell?_setCell_other _ _ _ _ (by intro e; cases e)]; exact h.n

set_option maxHeartbeats 8000000 in
set_option maxRecDepth 100000 in
theorem reach_raw (cv : Value) (gp bb cap : Nat) (t : Int) (w0 w : World) (hg : CN w gp 2 (gc cv bb cap)) (hb : CN w bb 11 (bk 0 t false false)) (hne : bb ≠ gp) (hg0 : w0.heap.size ≤ gp) (hb0 : w0.heap.size ≤ bb) (t0 : Tn No w0 w) :
    Calls Tryz.prog 65 #[.pointer (some ⟨gp, 0, none⟩)] w fun e w' => e = .returned (.tuple #[]) ∧ CN w' gp 2 (gc cv bb cap) ∧ CN w' bb 11 (bk 0 t false true) ∧ Tn No w0 w' := by
  have g1 : w.cell? ⟨gp, 1, none⟩ = some (.slice (some ⟨bb, 0, none⟩) 1 cap) := hg.cell 1 (by omega)
  have hgl := hg.lt
  have hbl := hb.lt
  have bf7 := hb.froz 7 (by omega)
  have HU : Hid (∀ U, U = ((w.alloc (.cells #[.pointer (some ⟨gp, 0, none⟩)] 147)).alloc (.cells #[.int .i32 0] 21)).alloc (.cells #[.slice (some ⟨w.heap.size + 1, 0, none⟩) 1 1] 216) → RHX w0 gp bb cap w.heap.size cv t U) := hid (fun U e => by
    subst e
    exact rhx_new hg hb hg0 hb0 t0 _ _ _)
  have hx := HU.out _ rfl
  have u1 := hx.g1
  have u2 := hx.p
  have u3 := hx.x
  have u4 := hx.n
  have u5 := hx.b7
  have u7 := hx.c7
  have u6 := hx.f
  clear hx
  go_enter Tryz.func65, Tryz.ntmps65
  go_wp2_with fail
  go_loopw [4] (fun _ wr => ∃ j : Nat, j ≤ 1 ∧ Hid (RHJ w0 gp bb cap w.heap.size cv t j wr)) (fun _ wr => match wr.cell? ⟨w.heap.size + 1 + 1, 0, none⟩ with | some (.slice _ n _) => n | _ => 0)
  case atStart => exact ⟨1, by omega, hid ((HU.out _ rfl).start hgl hbl (by have := t0.size; omega) hne hb0)⟩
  case round =>
    obtain ⟨j, hj, HJ⟩ := hrel
    clear HU hg hb g1 bf7
    have x1 : wr.cell? ⟨gp, 1, none⟩ = some (.slice (some ⟨bb, 0, none⟩) 1 cap) := HJ.out.g.cell 1 (by omega)
    have x2 := HJ.out.p
    have x3 := HJ.out.x
    have x4 := HJ.out.n
    have x5 := HJ.out.f
    have x6 : wr.cell? ⟨bb, 2, none⟩ = some (.int .i32 (-1)) := HJ.out.b.cell 2 (by omega)
    have x7 : wr.cell? ⟨bb, 5, none⟩ = some (.bool false) := HJ.out.b.cell 5 (by omega)
    by_cases hj1 : j = 1
    · subst hj1
      have hu := (HJ.out.step (j := 0)).g.cell 1 (by omega)
      have hu1 : (wr.setCell ⟨w.heap.size + 1 + 1, 0, none⟩ (.slice (some ⟨w.heap.size + 1, 0, none⟩) 0 1)).cell? ⟨bb, 5, none⟩ = some (.bool false) := (HJ.out.step (j := 0)).b.cell 5 (by omega)
      have hu2 : (wr.setCell ⟨w.heap.size + 1 + 1, 0, none⟩ (.slice (some ⟨w.heap.size + 1, 0, none⟩) 0 1)).cell? ⟨bb, 2, none⟩ = some (.int .i32 (-1)) := (HJ.out.step (j := 0)).b.cell 2 (by omega)
      have hu3 := (HJ.out.step (j := 0)).p
      have hu0 : (wr.setCell ⟨w.heap.size + 1 + 1, 0, none⟩ (.slice (some ⟨w.heap.size + 1, 0, none⟩) 0 1)).cell? ⟨gp, 1, none⟩ = some (.slice (some ⟨bb, 0, none⟩) 1 cap) := hu
      have hn := (HJ.out.step (j := 0)).n
      clear hu
      go_wp2_with fail
      go_roundw
      case rel => exact ⟨0, by omega, hid HJ.out.step⟩
      case measure => simp [hn, x4]
    · obtain rfl : j = 0 := by omega
      go_wp2_with fail
      go_end0
      exact ⟨rfl, HJ.out.g, HJ.out.b, HJ.out.tn⟩
end Go.Proofs.YtoidddfpekbliaaGreat
namespace Go.Proofs.YtoidddfpekbliaaGreat
set_option linter.unusedSimpArgs false
set_option linter.unusedVariables false
open Go.RowKit
attribute [local go_sem ↓] Go.wp_at_zero Go.wp_at_succ

/-- notes of n cells, none of which is wanted -/
structure NT (w : World) (kb kn sb wb nb n : Nat) (c1 c2 c3 : Nat) (T : Int) (S : Nat → Int) : Prop where
  box : w.cell? ⟨kb, 0, none⟩ = some (.pointer (some ⟨kn, 0, none⟩))
  time : w.cell? ⟨kn, 0, none⟩ = some (.int .i64 T)
  set : w.cell? ⟨kn, 1, none⟩ = some (.slice (some ⟨sb, 0, none⟩) n c1)
  wanted : w.cell? ⟨kn, 2, none⟩ = some (.slice (some ⟨wb, 0, none⟩) n c2)
  number : w.cell? ⟨kn, 3, none⟩ = some (.slice (some ⟨nb, 0, none⟩) n c3)
  sc : ∀ i, i < n → w.cell? ⟨sb, i, none⟩ = some (.int .i64 (S i))
  wc : ∀ i, i < n → w.cell? ⟨wb, i, none⟩ = some (.int .i64 0)
  nc : ∀ i, i < n → w.cell? ⟨nb, i, none⟩ = some (.int .i64 0)
  tf : w.frozen? ⟨kn, 0, none⟩ = false
  sf : ∀ i, i < n → w.frozen? ⟨sb, i, none⟩ = false
  ne : kn ≠ sb ∧ kb ≠ sb ∧ wb ≠ sb ∧ nb ≠ sb ∧ kb ≠ kn ∧ sb ≠ kn ∧ wb ≠ kn ∧ nb ≠ kn
variable {w : World} {kb kn sb wb nb n c1 c2 c3 : Nat} {T : Int} {S : Nat → Int}
theorem NT.lt (h : NT w kb kn sb wb nb n c1 c2 c3 T S) (h0 : 0 < n) : kb < w.heap.size ∧ kn < w.heap.size ∧ sb < w.heap.size ∧ wb < w.heap.size ∧ nb < w.heap.size :=
  ⟨World.block_lt_of_cell? _ _ h.box, World.block_lt_of_cell? _ _ h.time, World.block_lt_of_cell? _ _ (h.sc 0 h0), World.block_lt_of_cell? _ _ (h.wc 0 h0), World.block_lt_of_cell? _ _ (h.nc 0 h0)⟩
theorem NT.no {w' : World} (h : NT w kb kn sb wb nb n c1 c2 c3 T S) (h0 : 0 < n) (t : Tn No w w') : NT w' kb kn sb wb nb n c1 c2 c3 T S := by
  obtain ⟨l1, l2, l3, l4, l5⟩ := h.lt h0
  exact ⟨(t.cell l1 (fun e => e)).trans h.box, (t.cell l2 (fun e => e)).trans h.time, (t.cell l2 (fun e => e)).trans h.set, (t.cell l2 (fun e => e)).trans h.wanted, (t.cell l2 (fun e => e)).trans h.number, fun i hi => (t.cell l3 (fun e => e)).trans (h.sc i hi), fun i hi => (t.cell l4 (fun e => e)).trans (h.wc i hi), fun i hi => (t.cell l5 (fun e => e)).trans (h.nc i hi), (t.frozen l2 (fun e => e)).trans h.tf, fun i hi => (t.frozen l3 (fun e => e)).trans (h.sf i hi), h.ne⟩
theorem NT.put {c : Nat} (h : NT w kb kn sb wb nb n c1 c2 c3 T S) (hc : c < n) (v : Int) : NT (w.setCell ⟨sb, c, none⟩ (.int .i64 v)) kb kn sb wb nb n c1 c2 c3 T (upd S c v) := by
  obtain ⟨n1, n2, n3, n4, n5, n6, n7, n8⟩ := h.ne
  have o : ∀ g i, g ≠ sb → (w.setCell ⟨sb, c, none⟩ (.int .i64 v)).cell? ⟨g, i, none⟩ = w.cell? ⟨g, i, none⟩ := fun g i hg => World.cell?_setCell_other _ _ _ _ (by intro e; cases e; exact hg rfl)
  refine ⟨(o _ _ n2).trans h.box, (o _ _ n1).trans h.time, (o _ _ n1).trans h.set, (o _ _ n1).trans h.wanted, (o _ _ n1).trans h.number, fun i hi => ?_, fun i hi => (o _ _ n3).trans (h.wc i hi), fun i hi => (o _ _ n4).trans (h.nc i hi), by rw [World.frozen?_setCell]; exact h.tf, fun i hi => by rw [World.frozen?_setCell]; exact h.sf i hi, h.ne⟩
  by_cases e : i = c
  · subst e
    rw [World.cell?_setCell_same w _ _ (h.sc i hi), upd_same]
  · rw [World.cell?_setCell_other w _ _ _ (by intro h; cases h; exact e rfl), upd_other _ _ e]
    exact h.sc i hi
theorem NT.putd {c : Nat} (h : NT w kb kn sb wb nb n c1 c2 c3 T S) (hc : c < n) (v : Int) (_ : Unit) : NT (w.setCell ⟨sb, c, none⟩ (.int .i64 v)).drew kb kn sb wb nb n c1 c2 c3 T (upd S c v) :=
  (h.put hc v).no (by omega) ((Tn.refl No _).drew)
theorem NT.tick (h : NT w kb kn sb wb nb n c1 c2 c3 T S) (v : Int) : NT (w.setCell ⟨kn, 0, none⟩ (.int .i64 v)) kb kn sb wb nb n c1 c2 c3 v S := by
  obtain ⟨n1, n2, n3, n4, n5, n6, n7, n8⟩ := h.ne
  have o : ∀ g i, g ≠ kn → (w.setCell ⟨kn, 0, none⟩ (.int .i64 v)).cell? ⟨g, i, none⟩ = w.cell? ⟨g, i, none⟩ := fun g i hg => World.cell?_setCell_other _ _ _ _ (by intro e; cases e; exact hg rfl)
  have p : ∀ i, i ≠ 0 → (w.setCell ⟨kn, 0, none⟩ (.int .i64 v)).cell? ⟨kn, i, none⟩ = w.cell? ⟨kn, i, none⟩ := fun i hi => World.cell?_setCell_other _ _ _ _ (by intro e; cases e; exact hi rfl)
  exact ⟨(o _ _ n5).trans h.box, World.cell?_setCell_same w _ _ h.time, (p _ (by omega)).trans h.set, (p _ (by omega)).trans h.wanted, (p _ (by omega)).trans h.number, fun i hi => (o _ _ n6).trans (h.sc i hi), fun i hi => (o _ _ n7).trans (h.wc i hi), fun i hi => (o _ _ n8).trans (h.nc i hi), by rw [World.frozen?_setCell]; exact h.tf, fun i hi => by rw [World.frozen?_setCell]; exact h.sf i hi, h.ne⟩

set_option maxHeartbeats 1000000 in
set_option maxRecDepth 100000 in
theorem note_set (b : Int) (c : Nat) (p1 p2 p3 p4 : Value) (h : NT w kb kn sb wb nb n c1 c2 c3 T S) (hc : c < n) :
    Calls Tryz.prog 106 #[.int .i32 b, .int .i64 (c : Int), .bool true, .pointer (some ⟨kb, 0, none⟩), p1, p2, p3, p4] w fun e w' => e = .returned (.tuple #[]) ∧ NT w' kb kn sb wb nb n c1 c2 c3 T (upd S c T) ∧ Tn (fun k => k = sb) w w' := by
  have HN := hid h
  have u1 := h.box
  have u2 := h.time
  have u3 := h.set
  have u4 := h.sc c hc
  have u5 := h.sf c hc
  have hi0 : 0 ≤ (c : Int) := by omega
  have hi1 : (c : Int) < (n : Int) := by omega
  clear h
  go_enter Tryz.func106, Tryz.ntmps106
  go_wp2_with fail
  go_region_with fail
  all_goals
    go_wp2_with fail
    refine bodyPost_ret (results_none rfl _ _ _) rfl ?_
    exact ⟨rfl, HN.out.putd hc _ (), Tn.drew (Tn.set (Tn.refl _ _) _ _ (fun _ => rfl))⟩

set_option maxHeartbeats 1000000 in
set_option maxRecDepth 100000 in
theorem note_read (b : Int) (c : Nat) (p1 p2 p3 p4 : Value) (h : NT w kb kn sb wb nb n c1 c2 c3 T S) (hc : c < n) (hs : S c = T) :
    Calls Tryz.prog 106 #[.int .i32 b, .int .i64 (c : Int), .bool false, .pointer (some ⟨kb, 0, none⟩), p1, p2, p3, p4] w fun e w' => e = .returned (.tuple #[]) ∧ Tn No w w' := by
  have HT := hid (Tn.refl No w)
  have u1 := h.box
  have u2 := h.time
  have u3 := h.set
  have u4 := h.sc c hc
  rw [hs] at u4
  have hi0 : 0 ≤ (c : Int) := by omega
  have hi1 : (c : Int) < (n : Int) := by omega
  clear h hs
  go_enter Tryz.func106, Tryz.ntmps106
  go_wp2_with fail
  go_quiet (fail)
  go_wp2_with fail
  refine bodyPost_ret (results_none rfl _ _ _) rfl ?_
  exact ⟨rfl, by repeat (first | exact HT.out | apply Tn.drew | apply Tn.drewN)⟩

set_option maxHeartbeats 1000000 in
set_option maxRecDepth 100000 in
theorem note_over (h : NT w kb kn sb wb nb n c1 c2 c3 T S) (hT : 0 ≤ T ∧ T < 1000000) :
    Calls Tryz.prog 108 #[.pointer (some ⟨kb, 0, none⟩)] w fun e w' => e = .returned (.tuple #[]) ∧ NT w' kb kn sb wb nb n c1 c2 c3 (T + 1) S ∧ Tn (fun k => k = kn) w w' := by
  have HN := hid h
  have u1 := h.box
  have u2 := h.time
  have u3 := h.tf
  have hw : IntKind.i64.wrap (T + 1) = T + 1 := by simp [IntKind.wrap, IntKind.bits, IntKind.signed]; omega
  clear h
  go_enter Tryz.func108, Tryz.ntmps108
  go_wp2_with fail
  go_end0
  exact ⟨rfl, HN.out.tick _, Tn.set (Tn.refl _ _) _ _ (fun _ => rfl)⟩

set_option maxHeartbeats 1000000 in
set_option maxRecDepth 100000 in
theorem note_none : Calls Tryz.prog 110 #[] w fun e w' => e = .returned (.tuple #[]) ∧ w' = w := by
  go_enter Tryz.func110, Tryz.ntmps110
  go_wp2_with fail
  go_end0
  exact ⟨rfl, rfl⟩

set_option maxHeartbeats 1000000 in
set_option maxRecDepth 100000 in
theorem note_again (b : Int) (c B : Nat) (s : Bool) (p : Value) (bg : Int) (h : NT w kb kn sb wb nb n c1 c2 c3 T S) (hc : c < n) (hb : w.cell? ⟨B, 0, none⟩ = some (.int .i64 bg)) (hg : bg ≠ 0) :
    Calls Tryz.prog 109 #[.int .i32 b, .int .i64 (c : Int), .bool s, .pointer (some ⟨kb, 0, none⟩), .pointer (some ⟨B, 0, none⟩), p] w fun e w' => e = .returned (.tuple #[]) ∧ Tn No w w' := by
  have HT := hid (Tn.refl No w)
  have u1 := h.box
  have u2 := h.wanted
  have u3 := h.number
  have u4 := h.wc c hc
  have u5 := h.nc c hc
  have hi0 : 0 ≤ (c : Int) := by omega
  have hi1 : (c : Int) < (n : Int) := by omega
  have hn : ((0 : Int) == bg) = false := by simp; omega
  clear h hg
  cases s
  all_goals
    go_enter Tryz.func109, Tryz.ntmps109
    go_wp2_with fail
    go_quiet (fail)
    go_wp2_with fail
    go_end0
    exact ⟨rfl, by repeat (first | exact HT.out | apply Tn.drew | apply Tn.drewN)⟩
end Go.Proofs.YtoidddfpekbliaaGreat
namespace Go.Proofs.YtoidddfpekbliaaGreat
set_option linter.unusedSimpArgs false
set_option linter.unusedVariables false
open Go.RowKit
attribute [local go_sem ↓] Go.wp_at_zero Go.wp_at_succ

set_option maxHeartbeats 1000000 in
set_option maxRecDepth 100000 in
theorem tell_one (K : Nat) (cs : Array Value) (hE : Enters Tryz.prog K) (y z : Int) (hy : y = 0 ∨ y = 1) (B1 B2 B3 : Nat) (w : World) (Q : World → Prop) (h1 : w.cell? ⟨B1, 0, none⟩ = some (.func (.func K) #[] cs)) (h2 : w.cell? ⟨B2, 0, none⟩ = some (.int .i64 0))
    (hC : ∀ u, Tn No w u → Calls Tryz.prog K (#[.int .i32 0, .int .i64 z, .bool (y == 1)] ++ cs) u fun e w' => e = .returned (.tuple #[]) ∧ Q w') :
    Calls Tryz.prog 142 #[.int .i64 y, .int .i64 z, .pointer (some ⟨B1, 0, none⟩), .pointer (some ⟨B2, 0, none⟩), .pointer (some ⟨B3, 0, none⟩)] w fun e w' => e = .returned (.tuple #[]) ∧ Q w' := by
  have HC := hid hC
  have HT := hid (Tn.refl No w)
  have eK : ∀ (args : Array Value) (w : World), (callFunc K args).run Tryz.prog w = .ok (.enter K args) w := hE
  clear hC hE
  rcases hy with rfl | rfl
  all_goals
    go_enter Tryz.func142, Tryz.ntmps142
    go_wp2_with (first
      | fail
      | (go_at_fn K; refine (HC.out _ (by repeat (first | exact HT.out | apply Tn.drew | apply Tn.drewN))).mono ?_; rintro e w2 ⟨rfl, hq⟩; have HQ := hid hq; clear hq))
    go_end0
    exact ⟨rfl, HQ.out⟩
end Go.Proofs.YtoidddfpekbliaaGreat
