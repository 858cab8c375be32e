/-
  heap's reference: the Reader: what was met, and the value of a word.
-/
import Derived.Test.YtlkbnjdhokjfnaaHFrA
import Derived.Test.YtlkbnjdhokjfnaaRMay
import Derived.Test.YtlkbnjdhokjfnaaHTiA
namespace Go.Proofs.Ytlkbnjdhokjfnaa
set_option linter.unusedSimpArgs false
set_option linter.unusedVariables false
open Go.RowKit
attribute [local go_sem ↓] Go.wp_at_zero Go.wp_at_succ

/-- a Reader in memory: its bytes, where they lie, the map's block b, the row mv of what was met -/
structure RQ (bv : Value) (A : Nat) (w : World) (p b : Nat) (mv : Value) (row : List Int) : Prop where
  c0 : w.cell? ⟨p, 0, none⟩ = some bv
  c1 : w.cell? ⟨p, 1, none⟩ = some (.int .u64 (A : Int))
  c2 : w.cell? ⟨p, 2, none⟩ = some (.map (some b))
  c3 : w.cell? ⟨p, 3, none⟩ = some mv
  lt : p < w.heap.size
  fz : ∀ i, w.frozen? ⟨p, i, none⟩ = false
  met : LR 1 (eK .u64) w mv row
  map : IM .u64 29 w b row.length (num row)
  nd : row.Nodup
  wf : ∀ x ∈ row, (Lit.int .u64 x).wf = true
  pb : p ≠ b
  pm : mv.ownBlock ≠ some p
  bm : mv.ownBlock ≠ some b
section
variable {bv : Value} {A : Nat} {w w' : World} {p b : Nat} {mv : Value} {row : List Int}
theorem RQ.kept {F : Nat → Prop} (h : RQ bv A w p b mv row) (t : Tn F w w') (hn : ∀ k, RO p b mv k → ¬ F k) : RQ bv A w' p b mv row :=
  ⟨by rw [t.cell h.lt (hn _ (.inl rfl))]; exact h.c0, by rw [t.cell h.lt (hn _ (.inl rfl))]; exact h.c1, by rw [t.cell h.lt (hn _ (.inl rfl))]; exact h.c2, by rw [t.cell h.lt (hn _ (.inl rfl))]; exact h.c3, Nat.lt_of_lt_of_le h.lt t.size, fun i => by rw [t.frozen h.lt (hn _ (.inl rfl))]; exact h.fz i,
    h.met.tn t (fun g hg => hn g (.inr (.inr hg))), h.map.kept (t.block b h.map.lt (hn _ (.inr (.inl rfl)))), h.nd, h.wf, h.pb, h.pm, h.bm⟩
theorem RQ.no (h : RQ bv A w p b mv row) (t : Tn No w w') : RQ bv A w' p b mv row := h.kept t (fun _ _ e => e)
theorem RQ.olt (h : RQ bv A w p b mv row) : ∀ k, RO p b mv k → k < w.heap.size := by
  intro k hk
  rcases hk with rfl | rfl | hk
  · exact h.lt
  · exact h.map.lt
  · exact h.met.rw.lt k hk
end

theorem int_info9 : (Try.prog.info? 3).map (fun i => (i.zero, i.size, i.bytes)) = some (some (.int .i64 0), 1, 8) := by kernel_rfl
theorem zeroInt_U (w : World) : (zeroValue 3).run Try.prog w = .ok (.int .i64 0) w := by
  obtain ⟨i, hi, z0, z1, z2⟩ := info_parts int_info9
  simp [zeroValue, typeInfo, hi, z0]

def RefPostE (bv : Value) (A : Nat) (w : World) (p b : Nat) (mv : Value) (row : List Int) (x : Int) (e : Ending) (w' : World) : Prop :=
  ∃ mv', e = .returned (.agg #[.int .i64 2, .int .i64 ((Hp.pos (meetI row x) x : Nat) : Int)]) ∧ RQ bv A w' p b mv' (meetI row x) ∧ Up (RO p b mv) w (RO p b mv') w'

set_option maxHeartbeats 2000000 in
set_option maxRecDepth 100000 in
theorem rrefE_raw (bv : Value) (A : Nat) (p b : Nat) (mv : Value) (row : List Int) (x : Int) (w : World) (h : RQ bv A w p b mv row) (hx : (Lit.int .u64 x).wf = true) (hl : row.length + 1 ≤ 4294967296) (h2 : (x % 2 == 1) = false) (h3 : (x.tmod 2 == 1) = false) (h0 : 0 ≤ x) :
    Calls Try.prog 49 #[.pointer (some ⟨p, 0, none⟩), .int .u64 x] w (RefPostE bv A w p b mv row x) := by
  obtain ⟨w1, hw1⟩ : ∃ w1, w.alloc (.cells #[.int .i64 0, .int .i64 0] 61) = w1 := ⟨_, rfl⟩
  have t1 : Tn No w w1 := by rw [← hw1]; exact (Tn.refl No w).alloc _
  have s1 : w1.heap.size = w.heap.size + 1 := by rw [← hw1]; simp
  have h1 := h.no t1
  have hlk := h1.map.look Try.underlying29 Try.underlying70 (zeroInt_U w1) x hx
  have c0 := h1.c3
  have c1 := h1.c2
  have hpl := h1.lt
  have hp2 : p < w.heap.size := h.lt
  by_cases hm : x ∈ row
  · have e1 : num row x = some (Hp.pos row x) := by simp [num, hm]
    have e2 : meetI row x = row := by simp [meetI, hm]
    rw [e1] at hlk
    have HFIN : Hid (∀ o, Up (RO p b mv) w (RO p b mv) (w.alloc o) ∧ RQ bv A (w.alloc o) p b mv row) := hid (fun o => ⟨Up.no ((Tn.refl No w).alloc o), h.no ((Tn.refl No w).alloc o)⟩)
    unfold RefPostE
    rw [e2]
    simp only [Option.getD_some, Option.isSome_some] at hlk
    have HLK := hid hlk
    generalize Hp.pos row x = n at *
    clear hlk e1 e2 h1 h hx hm t1
    subst hw1
    clear s1
    go_enter Try.func49, Try.ntmps49
    go_wp2_with (at_lookup; refine wpList_lookw _ rfl _ _ true rfl _ rfl _ rfl _ HLK.out ?_)
    refine bodyPost_ret (v := .agg #[.int .i64 2, .int .i64 (n : Int)]) (by simp [results, Try.results49, go_sem]) rfl ?_
    exact ⟨_, rfl, (HFIN.out _).2, (HFIN.out _).1⟩
  · have e1 : num row x = none := by simp [num, hm]
    have e2 : meetI row x = row ++ [x] := by simp [meetI, hm]
    have e3 : Hp.pos (row ++ [x]) x = row.length := Hp.pos_new hm
    rw [e1] at hlk
    simp only [Option.getD_none, Option.isSome_none] at hlk
    have HLK := hid hlk
    obtain ⟨w2, hr2, him, hg2⟩ := h1.map.store (by unfold maxLen; omega) Try.underlying29 Try.underlying70 x hx row.length
    have t2 : Tn (fun k => k = b) w1 w2 := (Tn.of_grown hg2).mono (fun _ _ e => by cases e; rfl)
    have t3 : Tn No w2 (w2.alloc (.cells #[.int .u64 x] 29)) := (by repeat (first | exact Tn.refl _ _ | apply Tn.drew | apply Tn.drewN | apply Tn.alloc | (refine Tn.then ?_ (by assumption)) | (refine Tn.thenNo ?_ (by assumption))))
    have lr2 : LR 1 (eK .u64) w2 mv row := h1.met.tn t2 (fun g hg e => h.bm (by rw [hg, e]))
    obtain ⟨mv', w4, hr4, lr4, ou4⟩ := lU_push (lr2.no t3) x w2.heap.size (by rw [World.cell?_alloc_new]; rfl) hl
    have HR2 := hid hr2
    have HR4 := hid hr4
    have d0 : w2.cell? ⟨p, 3, none⟩ = some mv := by rw [t2.cell hpl h.pb]; exact c0
    have d1 : w2.cell? ⟨p, 2, none⟩ = some (.map (some b)) := by rw [t2.cell hpl h.pb]; exact c1
    have z2 : w1.heap.size ≤ w2.heap.size := t2.size
    have z4 : w2.heap.size + 1 ≤ w4.heap.size := by have := ou4.tn.size; simpa using this
    have pl2 : p < w2.heap.size := by omega
    have pl4 : p < w4.heap.size := by omega
    have up4 : Up (RO p b mv) w (RO p b mv') w4 := by
      have u1 : Up (RO p b mv) w (RO p b mv) w2 := (Up.no t1).trans ⟨t2.mono (fun k _ e => .inr (.inl e)), fun _ e => .inl e⟩
      have u2 := (u1.trans (Up.no t3)).trans (((Up.of ou4).more (fun k => k = p ∨ k = b)).wide (F' := RO p b mv) (fun k e => by unfold RO; rcases e with e | e | e <;> simp [e]))
      exact u2.less (fun k e => by unfold RO at e; rcases e with e | e | e <;> simp [e])
    have blt : b < w2.heap.size := him.lt
    have b4 : ¬ (mv.ownBlock = some b) := h.bm
    have him4 : IM .u64 29 w4 b (row.length + 1) (num (row ++ [x])) := ((him.congr (num_push hm)).kept (t3.block b blt (fun e => e))).kept (ou4.tn.block b (by simp; omega) b4)
    have fz4 : ∀ i, w4.frozen? ⟨p, i, none⟩ = false := fun i => by rw [ou4.tn.frozen (by simp; omega) h.pm, t3.frozen pl2 (fun e => e), t2.frozen hpl h.pb]; exact h1.fz i
    have f0 := fz4 3
    have g0 : w4.cell? ⟨p, 3, none⟩ = some mv := by rw [ou4.tn.cell (by simp; omega) h.pm, t3.cell pl2 (fun e => e)]; exact d0
    have g1 : w4.cell? ⟨p, 2, none⟩ = some (.map (some b)) := by rw [ou4.tn.cell (by simp; omega) h.pm, t3.cell pl2 (fun e => e)]; exact d1
    have gA : w4.cell? ⟨p, 0, none⟩ = some bv := by rw [ou4.tn.cell (by simp; omega) h.pm, t3.cell pl2 (fun e => e), t2.cell hpl h.pb]; exact h1.c0
    have gB : w4.cell? ⟨p, 1, none⟩ = some (.int .u64 (A : Int)) := by rw [ou4.tn.cell (by simp; omega) h.pm, t3.cell pl2 (fun e => e), t2.cell hpl h.pb]; exact h1.c1
    have pm' : mv'.ownBlock ≠ some p := fun e => by
      rcases ou4.own p e with e | e
      · exact h.pm e
      · simp at e; omega
    have bm' : mv'.ownBlock ≠ some b := fun e => by
      rcases ou4.own b e with e | e
      · exact h.bm e
      · simp at e; omega
    have own4 : mv'.ownBlock ≠ some w.heap.size := fun e => by
      rcases ou4.own _ e with e | e
      · have := h.met.rw.lt _ e; omega
      · simp at e; omega
    have HFIN : Hid (∀ a b', Up (RO p b mv) w (RO p b mv') (((w4.setCell ⟨p, 3, none⟩ mv').setCell ⟨w.heap.size, 0, none⟩ a).setCell ⟨w.heap.size, 1, none⟩ b') ∧ RQ bv A (((w4.setCell ⟨p, 3, none⟩ mv').setCell ⟨w.heap.size, 0, none⟩ a).setCell ⟨w.heap.size, 1, none⟩ b') p b mv' (row ++ [x])) := by
      apply hid
      intro a b'
      have tp : Tn (fun k => k = p) w4 (w4.setCell ⟨p, 3, none⟩ mv') := (Tn.refl _ w4).set _ _ (fun _ => rfl)
      have ra : RQ bv A (w4.setCell ⟨p, 3, none⟩ mv') p b mv' (row ++ [x]) := by
        refine ⟨by rw [World.cell?_setCell_other _ _ _ _ (by simp)]; exact gA, by rw [World.cell?_setCell_other _ _ _ _ (by simp)]; exact gB, ?_, World.cell?_setCell_same w4 _ _ g0, by simpa using pl4, fun i => by rw [World.frozen?_setCell]; exact fz4 i, lr4.tn tp (fun g hg e => pm' (by rw [hg, e])), ?_, ?_, ?_, h.pb, pm', bm'⟩
        · rw [World.cell?_setCell_other _ _ _ _ (by simp)]; exact g1
        · rw [List.length_append]; exact him4.kept (tp.block b (by omega) (fun e => h.pb e.symm))
        · have := meetI_nodup h.nd x; rwa [e2] at this
        · intro y hy
          rcases List.mem_append.1 hy with hy | hy
          · exact h.wf y hy
          · simp at hy; subst hy; exact hx
      have ts : Tn (fun k => k = w.heap.size) (w4.setCell ⟨p, 3, none⟩ mv') (((w4.setCell ⟨p, 3, none⟩ mv').setCell ⟨w.heap.size, 0, none⟩ a).setCell ⟨w.heap.size, 1, none⟩ b') := ((Tn.refl (fun k => k = w.heap.size) _).set _ _ (fun _ => rfl)).set _ _ (fun _ => rfl)
      refine ⟨?_, ra.kept ts (fun k hk e => ?_)⟩
      · refine ⟨(up4.tn.set _ _ (fun _ => .inl rfl)).trans ts (fun _ _ e => e) (fun i hi e => by omega), up4.own⟩
      · subst e
        rcases hk with hk | hk | hk
        · omega
        · have := h.map.lt; omega
        · exact own4 hk
    unfold RefPostE
    rw [e2, e3]
    obtain ⟨ma, mc, hmv, _⟩ := h.met.rw.form
    subst hmv
    have lrf := lr4.rw.form
    obtain ⟨n', hn'⟩ : ∃ n', (row ++ [x]).length = n' := ⟨_, rfl⟩
    rw [hn'] at lrf
    obtain ⟨ma', mc', hmv', _⟩ := lrf
    subst hmv'
    have q0 : w4.cell? ⟨w.heap.size, 0, none⟩ = some (.int .i64 0) := by
      rw [ou4.tn.cell (by simp; omega) (fun e => by have := h.met.rw.lt _ e; omega), t3.cell (by omega) (fun e => e), t2.cell (by omega) (by have := h.map.lt; omega), ← hw1, World.cell?_alloc_new]; rfl
    have q1 : w4.cell? ⟨w.heap.size, 1, none⟩ = some (.int .i64 0) := by
      rw [ou4.tn.cell (by simp; omega) (fun e => by have := h.met.rw.lt _ e; omega), t3.cell (by omega) (fun e => e), t2.cell (by omega) (by have := h.map.lt; omega), ← hw1, World.cell?_alloc_new]; rfl
    have r0 : w4.frozen? ⟨w.heap.size, 0, none⟩ = false := by
      rw [ou4.tn.frozen (by simp; omega) (fun e => by have := h.met.rw.lt _ e; omega), t3.frozen (by omega) (fun e => e), t2.frozen (by omega) (by have := h.map.lt; omega), ← hw1]
      have hh := heap_alloc_new w (.cells #[.int .i64 0, .int .i64 0] 61)
      simp only [World.frozen?, hh]; simp
    have r1 : w4.frozen? ⟨w.heap.size, 1, none⟩ = false := by
      rw [ou4.tn.frozen (by simp; omega) (fun e => by have := h.met.rw.lt _ e; omega), t3.frozen (by omega) (fun e => e), t2.frozen (by omega) (by have := h.map.lt; omega), ← hw1]
      have hh := heap_alloc_new w (.cells #[.int .i64 0, .int .i64 0] 61)
      simp only [World.frozen?, hh]; simp
    have zz : w.heap.size < w4.heap.size := by omega
    have hnp : w.heap.size ≠ p := by omega
    have hnp2 : p ≠ w.heap.size := by omega
    have K2 : Hid (∀ v u u', ((((w4.setCell ⟨p, 3, none⟩ v).setCell ⟨w.heap.size, 0, none⟩ u).setCell ⟨w.heap.size, 1, none⟩ u')).cell? ⟨w.heap.size, 1, none⟩ = some u' ∧ ((w4.setCell ⟨p, 3, none⟩ v).setCell ⟨w.heap.size, 0, none⟩ u).cell? ⟨w.heap.size, 0, none⟩ = some u) := hid (fun v u u' => by
      have a0 : (w4.setCell ⟨p, 3, none⟩ v).cell? ⟨w.heap.size, 0, none⟩ = some (.int .i64 0) := by rw [World.cell?_setCell_other _ _ _ _ (by simp [hnp, hnp2])]; exact q0
      have a1 : ((w4.setCell ⟨p, 3, none⟩ v).setCell ⟨w.heap.size, 0, none⟩ u).cell? ⟨w.heap.size, 1, none⟩ = some (.int .i64 0) := by rw [World.cell?_setCell_other _ _ _ _ (by simp), World.cell?_setCell_other _ _ _ _ (by simp [hnp, hnp2])]; exact q1
      exact ⟨World.cell?_setCell_same _ _ _ a1, World.cell?_setCell_same _ _ _ a0⟩)
    clear gA gB hlk hr2 hr4 him him4 up4 own4 lr4 lr2 ou4 t2 t3 hg2 e1 e2 e3 h1 h hx hm t1 fz4 blt b4 pm' bm' g1 hn'
    generalize row.length = n at *
    subst hw1
    clear s1 z2 z4
    go_enter Try.func49, Try.ntmps49
    go_wp2_with (first
      | (at_lookup; refine wpList_lookw _ rfl _ _ true rfl _ rfl _ rfl _ HLK.out ?_)
      | (at_mapUpdate; refine wpList_putw _ rfl _ _ _ rfl _ rfl _ rfl _ rfl w2 HR2.out ?_)
      | (at_builtin; refine wpList_app _ rfl _ _ _ _ rfl _ _ rfl rfl _ w4 HR4.out ?_))
    refine bodyPost_ret (v := .agg #[.int .i64 2, .int .i64 (n : Int)]) (by simp [results, Try.results49, go_sem, (K2.out _ _ _).1, (K2.out _ _ (.int .i64 0)).2]) rfl ?_
    exact ⟨_, rfl, (HFIN.out _ _).2, (HFIN.out _ _).1⟩

/-- the value of a word -/
def RefPost (bv : Value) (A : Nat) (w : World) (p b : Nat) (mv : Value) (row : List Int) (x : Nat) (e : Ending) (w' : World) : Prop :=
  ∃ mv', e = .returned (.agg #[.int .i64 (valW (meetW row x) x).1, .int .i64 (valW (meetW row x) x).2]) ∧ RQ bv A w' p b mv' (meetW row x) ∧ Up (RO p b mv) w (RO p b mv') w'

set_option maxHeartbeats 2000000 in
set_option maxRecDepth 100000 in
theorem rref_raw (bv : Value) (A : Nat) (p b : Nat) (mv : Value) (row : List Int) (x : Nat) (w : World) (h : RQ bv A w p b mv row) (hx : x < 18446744073709551616) (hl : row.length + 1 ≤ 4294967296) :
    Calls Try.prog 49 #[.pointer (some ⟨p, 0, none⟩), .int .u64 (x : Int)] w (RefPost bv A w p b mv row x) := by
  by_cases h2 : x % 2 = 1
  · have e1 : ((x : Int) % 2 == 1) = true := by simp; omega
    have HFIN : Hid (∀ o, Up (RO p b mv) w (RO p b mv) (w.alloc o) ∧ RQ bv A (w.alloc o) p b mv row) := hid (fun o => ⟨Up.no ((Tn.refl No w).alloc o), h.no ((Tn.refl No w).alloc o)⟩)
    unfold RefPost meetW valW
    simp only [if_pos h2]
    obtain ⟨y, hy⟩ : ∃ y : Int, (if x < 9223372036854775808 then ((x / 2 : Nat) : Int) else ((x / 2 : Nat) : Int) - 9223372036854775808) = y := ⟨_, rfl⟩
    have hw : IntKind.i64.wrap (x : Int) / 2 = y := by
      rw [← hy]
      by_cases hx2 : x < 9223372036854775808
      · rw [if_pos hx2]
        have : IntKind.i64.wrap (x : Int) = x := by simp [IntKind.wrap, IntKind.bits, IntKind.signed]; omega
        rw [this]; omega
      · rw [if_neg hx2]
        have : IntKind.i64.wrap (x : Int) = (x : Int) - 18446744073709551616 := by simp [IntKind.wrap, IntKind.bits, IntKind.signed]; omega
        rw [this]; omega
    have hw2 : wrap64 (x : Int) / 2 = y := by
      rw [← hy]
      unfold wrap64
      by_cases hx2 : x < 9223372036854775808
      · rw [if_pos hx2]; omega
      · rw [if_neg hx2]; omega
    rw [hy]
    clear h hy
    go_enter Try.func49, Try.ntmps49
    go_wp2
    refine bodyPost_ret (v := .agg #[.int .i64 1, .int .i64 y]) (by simp [results, Try.results49, go_sem]) rfl ?_
    exact ⟨_, rfl, (HFIN.out _).2, (HFIN.out _).1⟩
  · unfold RefPost meetW valW
    simp only [if_neg h2]
    exact rrefE_raw bv A p b mv row (x : Int) w h (WalkArith.wf_u64 (by omega)) hl (by simp; omega) (by rw [Int.tmod_eq_emod_of_nonneg (by omega)]; simp; omega) (by omega)
end Go.Proofs.Ytlkbnjdhokjfnaa
namespace Go.Proofs.Ytlkbnjdhokjfnaa
set_option linter.unusedSimpArgs false
set_option linter.unusedVariables false
open Go.RowKit
attribute [local go_sem ↓] Go.wp_at_zero Go.wp_at_succ

def atB (l : List UInt8) (A x : Nat) : Bool := decide (A ≤ x ∧ x - A + 8 ≤ l.length)
def atW (l : List UInt8) (A x : Nat) : Nat := if atB l A x = true then Hp.num (Hp.sub l (x - A) 8) else 0

theorem atW_lt (l : List UInt8) (A x : Nat) : atW l A x < 18446744073709551616 := by
  unfold atW
  split
  · have h := Hp.num_lt (Hp.sub l (x - A) 8)
    have h2 : (Hp.sub l (x - A) 8).length ≤ 8 := by simp [Hp.sub]; omega
    have h3 : 256 ^ (Hp.sub l (x - A) 8).length ≤ 256 ^ 8 := Nat.pow_le_pow_right (by omega) h2
    omega
  · omega

set_option maxHeartbeats 8000000 in
set_option maxRecDepth 100000 in
theorem rat_raw (bv : Value) (A : Nat) (p b : Nat) (mv : Value) (row : List Int) (l : List UInt8) (x : Nat) (w : World) (h : RQ bv A w p b mv row) (hl : LD 1 eB w bv l) (hn : l.length ≤ 1073741824) (hA : A < 18446744073709551616) (hx : x < 18446744073709551616) :
    Calls Try.prog 67 #[.pointer (some ⟨p, 0, none⟩), .int .u64 (x : Int)] w fun e w' => e = .returned (.tuple #[.int .u64 (atW l A x : Int), .bool (atB l A x)]) ∧ Tn No w w' := by
  have c0 := h.c0
  have c1 := h.c1
  have hlt := h.lt
  have HT : Hid (∀ q, Tn No w (w.drewN q)) := hid (fun q => (Tn.refl No w).drewN q)
  have hl0 := hl
  obtain ⟨a, c, hbv, hc, hcm, hat⟩ := hl
  obtain ⟨n, hnn⟩ : ∃ n, l.length = n := ⟨_, rfl⟩
  rw [hnn] at hbv hc hn
  by_cases h1 : x < A
  · have e1 : atB l A x = false := by simp only [atB, decide_eq_false_iff_not]; omega
    have e2 : atW l A x = 0 := by simp [atW, e1]
    rw [e1, e2]
    have i1 : (x : Int) < (A : Int) := by omega
    subst hbv
    clear h hl0 hat e1 e2 hnn
    go_enter Try.func67, Try.ntmps67
    go_wp2_with fail
    go_quiet (fail)
    go_wp2_with fail
    go_ret2
    exact ⟨rfl, HT.out _⟩
  · obtain ⟨o, ho⟩ : ∃ o, x = A + o := ⟨x - A, by omega⟩
    have d1 : decide ((x : Int) < (A : Int)) = false := by simp; omega
    have s1 : (x : Int) - (A : Int) = (o : Int) := by omega
    have s2 : IntKind.u64.wrap ((x : Int) - (A : Int)) = (o : Int) := by rw [s1]; simp [IntKind.wrap, IntKind.bits, IntKind.signed]; omega
    by_cases h2 : n < o
    · have e1 : atB l A x = false := by simp only [atB, decide_eq_false_iff_not]; omega
      have e2 : atW l A x = 0 := by simp [atW, e1]
      rw [e1, e2]
      have i2 : (n : Int) < (o : Int) := by omega
      subst hbv
      clear h hl0 hat e1 e2 hnn ho
      go_enter Try.func67, Try.ntmps67
      go_wp2_with fail
      go_quiet (fail)
      go_wp2_with fail
      go_ret2
      exact ⟨rfl, HT.out _⟩
    · have d2 : decide ((n : Int) < (o : Int)) = false := by simp; omega
      by_cases h3 : n - o < 8
      · have e1 : atB l A x = false := by simp only [atB, decide_eq_false_iff_not]; omega
        have e2 : atW l A x = 0 := by simp [atW, e1]
        rw [e1, e2]
        have i3 : (n : Int) - (o : Int) < 8 := by omega
        have i4 : (0 : Int) ≤ (n : Int) - (o : Int) := by omega
        subst hbv
        clear h hl0 hat e1 e2 hnn ho
        go_enter Try.func67, Try.ntmps67
        go_wp2_with fail
        go_quiet (fail)
        go_wp2_with fail
        go_ret2
        exact ⟨rfl, HT.out _⟩
      · have e1 : atB l A x = true := by simp only [atB, decide_eq_true_eq]; omega
        have e2 : atW l A x = Hp.num (Hp.sub l o 8) := by rw [atW, if_pos e1, show x - A = o by omega]
        rw [e1, e2]
        have d3 : decide ((n : Int) - (o : Int) < 8) = false := by simp; omega
        obtain ⟨g, off, rfl, hg, hcell⟩ := hat (by omega)
        have hsub : ∀ q, LD 1 eB (w.drewN q) (.slice (some ⟨g, off + o, none⟩) 8 (c - o)) (Hp.sub l o 8) := fun q => by
          have hlen : (Hp.sub l o 8).length = 8 := by simp [Hp.sub]; omega
          refine ⟨some ⟨g, off + o, none⟩, c - o, by rw [hlen], by rw [hlen]; omega, by omega, fun _ => ⟨g, off + o, rfl, hg, fun i hi j hj => ?_⟩⟩
          rw [hlen] at hi
          have := hcell (o + i) (by omega) j hj
          rw [show off + o + (i * 1 + j) = off + ((o + i) * 1 + j) by omega]
          rw [show (w.drewN q).cell? ⟨g, off + ((o + i) * 1 + j), none⟩ = w.cell? ⟨g, off + ((o + i) * 1 + j), none⟩ from rfl, this]
          simp [Hp.sub]
        have hcv := fun q => ld_string (hsub q)
        have hsz : (⟨(Hp.sub l o 8).toArray⟩ : ByteArray).size ≤ 8 := by simp [ByteArray.size, Hp.sub]; omega
        have HNM := hid (fun u => number_raw ⟨(Hp.sub l o 8).toArray⟩ u hsz)
        have i3 : (8 : Int) ≤ (n : Int) - (o : Int) := by omega
        have i4 : (0 : Int) ≤ (n : Int) - (o : Int) := by omega
        have i5 : (o : Int) + 8 ≤ (n : Int) := by omega
        have i6 : (o : Int) + 8 ≤ (c : Int) := by omega
        have i7 : ¬ c = o := by omega
        generalize Hp.sub l o 8 = S at *
        subst hbv
        clear h hl0 hat e1 e2 hnn hcell hsub hsz ho
        simp only at HNM
        go_enter Try.func67, Try.ntmps67
        go_wp2_with fail
        go_quiet (fail)
        go_wp2_with (first
          | (go_at_call 55; refine (HNM.out _).mono ?_; rintro e w' ⟨rfl, rfl⟩))
        go_ret2
        exact ⟨rfl, HT.out _⟩
end Go.Proofs.Ytlkbnjdhokjfnaa
