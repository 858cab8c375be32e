/-
  heap: a row of int64 is made; something is met.
-/
import Derived.Test.YtlkbnjdhokjfnaaHEqA
namespace Go.Proofs.Ytlkbnjdhokjfnaa
set_option linter.unusedSimpArgs false
set_option linter.unusedVariables false
open Go.RowKit
attribute [local go_sem ↓] Go.wp_at_zero Go.wp_at_succ

abbrev RAI := RA .i64 2

set_option maxRecDepth 100000 in
theorem newRowI_raw (w : World) : Calls Try.prog 58 #[] w fun e w' => ∃ p b, e = .returned (.pointer (some ⟨p, 0, none⟩)) ∧ RAI w' p b (.slice none 0 0) [] ∧ Tn No w w' ∧ w.heap.size ≤ p ∧ w.heap.size ≤ b := by
  have hfin : Hid (∃ p b, Ending.returned (.pointer (some ⟨w.heap.size + 1, 0, none⟩)) = .returned (.pointer (some ⟨p, 0, none⟩)) ∧ RAI ((w.alloc (.map #[] 0)).alloc (.cells #[.slice none 0 0, .map (some w.heap.size)] 90)) p b (.slice none 0 0) [] ∧ Tn No w ((w.alloc (.map #[] 0)).alloc (.cells #[.slice none 0 0, .map (some w.heap.size)] 90)) ∧ w.heap.size ≤ p ∧ w.heap.size ≤ b) := by
    apply hid
    have hh : ((w.alloc (.map #[] 0)).alloc (.cells #[.slice none 0 0, .map (some w.heap.size)] 90)).heap[(w.alloc (.map #[] 0)).heap.size]? = some (.cells #[.slice none 0 0, .map (some w.heap.size)] 90 (0, 0)) := heap_alloc_new _ _
    have e1 : (w.alloc (.map #[] 0)).heap.size = w.heap.size + 1 := by simp
    rw [e1] at hh
    refine ⟨w.heap.size + 1, w.heap.size, rfl, ⟨?_, ?_, by simp, fun i => ?_, LR.nil _ _ _, ?_, by simp, fun x hx => (by cases hx), (by omega), (fun e => (by cases e)), (fun e => (by cases e))⟩, (by repeat (first | exact Tn.refl _ _ | apply Tn.drew | apply Tn.drewN | apply Tn.alloc | (refine Tn.then ?_ (by assumption)) | (refine Tn.thenNo ?_ (by assumption)))), by omega, by omega⟩
    · rw [World.cell?_alloc_at _ _ _ _ (by simp)]; rfl
    · rw [World.cell?_alloc_at _ _ _ _ (by simp)]; rfl
    · simp only [World.frozen?, hh]; simp
    · exact ((IM.made .i64 2 w).congr (fun k => by simp [num])).kept (Below.heap_alloc _ _ _ (by simp))
  have hmm := @run_makeMap Try.prog
  go_enter Try.func58, Try.ntmps58
  go_wp2
  go_ret
  exact hfin.out

theorem zeroI64_I (w : World) : (zeroValue 2).run Try.prog w = .ok (.int .i64 0) w := by
  obtain ⟨i, hi, z0, z1, z2⟩ := info_parts i64_info
  simp [zeroValue, typeInfo, hi, z0]

theorem lI_push {w : World} {v : Value} {l : List Int} (h : LR 1 (eK .i64) w v l) (x : Int) (b : Nat) (hb : w.cell? ⟨b, 0, none⟩ = some (.int .i64 x)) (hl : l.length + 1 ≤ 4294967296) :
    ∃ v' w', (Builtin.append_ #[87, 87] 87 #[v, .slice (some ⟨b, 0, none⟩) 1 1]).run Try.prog w = .ok v' w' ∧ LR 1 (eK .i64) w' v' (l ++ [x]) ∧ Ou w v w' v' := by
  obtain ⟨v', w', h1, h2, h3, h4⟩ := lr_push (size := 1) Try.underlying87 i64_info rfl (by omega) h x rfl (by intro u hu; simp [eK] at hu; subst hu; rfl) b (fun j u hu => by
    cases j with
    | zero => simp [eK] at hu; subst hu; exact hb
    | succ j => simp [eK] at hu) (by unfold maxLen; omega) (by omega) 87
  exact ⟨v', w', h1, h2, Ou.of h3 h4⟩

/-- what a meeting leaves -/
def MeetPostI (w : World) (p b : Nat) (mv : Value) (row : List Int) (x : Int) (e : Ending) (w' : World) : Prop :=
  ∃ mv', e = .returned (.agg #[.int .i64 2, .int .i64 ((Hp.pos (meetI row x) x : Nat) : Int)]) ∧ RAI w' p b mv' (meetI row x) ∧ Up (RO p b mv) w (RO p b mv') w'

set_option maxHeartbeats 2000000 in
set_option maxRecDepth 100000 in
theorem meetI_raw (p b : Nat) (mv : Value) (row : List Int) (x : Int) (w : World) (h : RAI w p b mv row) (hx : (Lit.int .i64 x).wf = true) (hl : row.length + 1 ≤ 4294967296) :
    Calls Try.prog 74 #[.pointer (some ⟨p, 0, none⟩), .int .i64 x] w (MeetPostI w p b mv row x) := by
  obtain ⟨w1, hw1⟩ : ∃ w1, w.alloc (.cells #[.int .i64 0, .int .i64 0] 61) = w1 := ⟨_, rfl⟩
  have t1 : Tn No w w1 := by rw [← hw1]; exact (Tn.refl No w).alloc _
  have s1 : w1.heap.size = w.heap.size + 1 := by rw [← hw1]; simp
  have h1 := h.no t1
  have hlk := h1.map.look Try.underlying2 Try.underlying88 (zeroI64_I w1) x hx
  have c0 := h1.c0
  have c1 := h1.c1
  have hpl := h1.lt
  have hp2 : p < w.heap.size := h.lt
  by_cases hm : x ∈ row
  · have e1 : num row x = some (Hp.pos row x) := by simp [num, hm]
    have e2 : meetI row x = row := by simp [meetI, hm]
    rw [e1] at hlk
    have HFIN : Hid (∀ o, Up (RO p b mv) w (RO p b mv) (w.alloc o) ∧ RAI (w.alloc o) p b mv row) := hid (fun o => ⟨Up.no ((Tn.refl No w).alloc o), h.no ((Tn.refl No w).alloc o)⟩)
    unfold MeetPostI
    rw [e2]
    simp only [Option.getD_some, Option.isSome_some] at hlk
    have HLK := hid hlk
    generalize Hp.pos row x = n at *
    clear hlk e1 e2 h1 h hx hm t1
    subst hw1
    clear s1
    go_enter Try.func74, Try.ntmps74
    go_wp2_with (at_lookup; refine wpList_lookw _ rfl _ _ true rfl _ rfl _ rfl _ HLK.out ?_)
    refine bodyPost_ret (v := .agg #[.int .i64 2, .int .i64 (n : Int)]) (by simp [results, Try.results74, go_sem]) rfl ?_
    exact ⟨_, rfl, (HFIN.out _).2, (HFIN.out _).1⟩
  · have e1 : num row x = none := by simp [num, hm]
    have e2 : meetI row x = row ++ [x] := by simp [meetI, hm]
    have e3 : Hp.pos (row ++ [x]) x = row.length := Hp.pos_new hm
    rw [e1] at hlk
    simp only [Option.getD_none, Option.isSome_none] at hlk
    have HLK := hid hlk
    obtain ⟨w2, hr2, him, hg2⟩ := h1.map.store (by unfold maxLen; omega) Try.underlying2 Try.underlying88 x hx row.length
    have t2 : Tn (fun k => k = b) w1 w2 := (Tn.of_grown hg2).mono (fun _ _ e => by cases e; rfl)
    have t3 : Tn No w2 (w2.alloc (.cells #[.int .i64 x] 2)) := (by repeat (first | exact Tn.refl _ _ | apply Tn.drew | apply Tn.drewN | apply Tn.alloc | (refine Tn.then ?_ (by assumption)) | (refine Tn.thenNo ?_ (by assumption))))
    have lr2 : LR 1 (eK .i64) w2 mv row := h1.met.tn t2 (fun g hg e => h.bm (by rw [hg, e]))
    obtain ⟨mv', w4, hr4, lr4, ou4⟩ := lI_push (lr2.no t3) x w2.heap.size (by rw [World.cell?_alloc_new]; rfl) hl
    have HR2 := hid hr2
    have HR4 := hid hr4
    have d0 : w2.cell? ⟨p, 0, none⟩ = some mv := by rw [t2.cell hpl h.pb]; exact c0
    have d1 : w2.cell? ⟨p, 1, none⟩ = some (.map (some b)) := by rw [t2.cell hpl h.pb]; exact c1
    have z2 : w1.heap.size ≤ w2.heap.size := t2.size
    have z4 : w2.heap.size + 1 ≤ w4.heap.size := by have := ou4.tn.size; simpa using this
    have pl2 : p < w2.heap.size := by omega
    have pl4 : p < w4.heap.size := by omega
    have up4 : Up (RO p b mv) w (RO p b mv') w4 := by
      have u1 : Up (RO p b mv) w (RO p b mv) w2 := (Up.no t1).trans ⟨t2.mono (fun k _ e => .inr (.inl e)), fun _ e => .inl e⟩
      have u2 := (u1.trans (Up.no t3)).trans (((Up.of ou4).more (fun k => k = p ∨ k = b)).wide (F' := RO p b mv) (fun k e => by unfold RO; rcases e with e | e | e <;> simp [e]))
      exact u2.less (fun k e => by unfold RO at e; rcases e with e | e | e <;> simp [e])
    have blt : b < w2.heap.size := him.lt
    have b4 : ¬ (mv.ownBlock = some b) := h.bm
    have him4 : IM .i64 2 w4 b (row.length + 1) (num (row ++ [x])) := ((him.congr (num_push hm)).kept (t3.block b blt (fun e => e))).kept (ou4.tn.block b (by simp; omega) b4)
    have fz4 : ∀ i, w4.frozen? ⟨p, i, none⟩ = false := fun i => by rw [ou4.tn.frozen (by simp; omega) h.pm, t3.frozen pl2 (fun e => e), t2.frozen hpl h.pb]; exact h1.fz i
    have f0 := fz4 0
    have g0 : w4.cell? ⟨p, 0, none⟩ = some mv := by rw [ou4.tn.cell (by simp; omega) h.pm, t3.cell pl2 (fun e => e)]; exact d0
    have g1 : w4.cell? ⟨p, 1, none⟩ = some (.map (some b)) := by rw [ou4.tn.cell (by simp; omega) h.pm, t3.cell pl2 (fun e => e)]; exact d1
    have pm' : mv'.ownBlock ≠ some p := fun e => by
      rcases ou4.own p e with e | e
      · exact h.pm e
      · simp at e; omega
    have bm' : mv'.ownBlock ≠ some b := fun e => by
      rcases ou4.own b e with e | e
      · exact h.bm e
      · simp at e; omega
    have own4 : mv'.ownBlock ≠ some w.heap.size := fun e => by
      rcases ou4.own _ e with e | e
      · have := h.met.rw.lt _ e; omega
      · simp at e; omega
    have HFIN : Hid (∀ a b', Up (RO p b mv) w (RO p b mv') (((w4.setCell ⟨p, 0, none⟩ mv').setCell ⟨w.heap.size, 0, none⟩ a).setCell ⟨w.heap.size, 1, none⟩ b') ∧ RAI (((w4.setCell ⟨p, 0, none⟩ mv').setCell ⟨w.heap.size, 0, none⟩ a).setCell ⟨w.heap.size, 1, none⟩ b') p b mv' (row ++ [x])) := by
      apply hid
      intro a b'
      have tp : Tn (fun k => k = p) w4 (w4.setCell ⟨p, 0, none⟩ mv') := (Tn.refl _ w4).set _ _ (fun _ => rfl)
      have ra : RAI (w4.setCell ⟨p, 0, none⟩ mv') p b mv' (row ++ [x]) := by
        refine ⟨World.cell?_setCell_same w4 _ _ g0, ?_, by simpa using pl4, fun i => by rw [World.frozen?_setCell]; exact fz4 i, lr4.tn tp (fun g hg e => pm' (by rw [hg, e])), ?_, ?_, ?_, h.pb, pm', bm'⟩
        · rw [World.cell?_setCell_other _ _ _ _ (by simp)]; exact g1
        · rw [List.length_append]; exact him4.kept (tp.block b (by omega) (fun e => h.pb e.symm))
        · have := meetI_nodup h.nd x; rwa [e2] at this
        · intro y hy
          rcases List.mem_append.1 hy with hy | hy
          · exact h.wf y hy
          · simp at hy; subst hy; exact hx
      have ts : Tn (fun k => k = w.heap.size) (w4.setCell ⟨p, 0, none⟩ mv') (((w4.setCell ⟨p, 0, none⟩ mv').setCell ⟨w.heap.size, 0, none⟩ a).setCell ⟨w.heap.size, 1, none⟩ b') := ((Tn.refl (fun k => k = w.heap.size) _).set _ _ (fun _ => rfl)).set _ _ (fun _ => rfl)
      refine ⟨?_, ra.kept ts (fun k hk e => ?_)⟩
      · refine ⟨(up4.tn.set _ _ (fun _ => .inl rfl)).trans ts (fun _ _ e => e) (fun i hi e => by omega), up4.own⟩
      · subst e
        rcases hk with hk | hk | hk
        · omega
        · have := h.map.lt; omega
        · exact own4 hk
    unfold MeetPostI
    rw [e2, e3]
    obtain ⟨ma, mc, hmv, _⟩ := h.met.rw.form
    subst hmv
    have lrf := lr4.rw.form
    obtain ⟨n', hn'⟩ : ∃ n', (row ++ [x]).length = n' := ⟨_, rfl⟩
    rw [hn'] at lrf
    obtain ⟨ma', mc', hmv', _⟩ := lrf
    subst hmv'
    have q0 : w4.cell? ⟨w.heap.size, 0, none⟩ = some (.int .i64 0) := by
      rw [ou4.tn.cell (by simp; omega) (fun e => by have := h.met.rw.lt _ e; omega), t3.cell (by omega) (fun e => e), t2.cell (by omega) (by have := h.map.lt; omega), ← hw1, World.cell?_alloc_new]; rfl
    have q1 : w4.cell? ⟨w.heap.size, 1, none⟩ = some (.int .i64 0) := by
      rw [ou4.tn.cell (by simp; omega) (fun e => by have := h.met.rw.lt _ e; omega), t3.cell (by omega) (fun e => e), t2.cell (by omega) (by have := h.map.lt; omega), ← hw1, World.cell?_alloc_new]; rfl
    have r0 : w4.frozen? ⟨w.heap.size, 0, none⟩ = false := by
      rw [ou4.tn.frozen (by simp; omega) (fun e => by have := h.met.rw.lt _ e; omega), t3.frozen (by omega) (fun e => e), t2.frozen (by omega) (by have := h.map.lt; omega), ← hw1]
      have hh := heap_alloc_new w (.cells #[.int .i64 0, .int .i64 0] 61)
      simp only [World.frozen?, hh]; simp
    have r1 : w4.frozen? ⟨w.heap.size, 1, none⟩ = false := by
      rw [ou4.tn.frozen (by simp; omega) (fun e => by have := h.met.rw.lt _ e; omega), t3.frozen (by omega) (fun e => e), t2.frozen (by omega) (by have := h.map.lt; omega), ← hw1]
      have hh := heap_alloc_new w (.cells #[.int .i64 0, .int .i64 0] 61)
      simp only [World.frozen?, hh]; simp
    have zz : w.heap.size < w4.heap.size := by omega
    have hnp : w.heap.size ≠ p := by omega
    have hnp2 : p ≠ w.heap.size := by omega
    have K2 : Hid (∀ v u u', ((((w4.setCell ⟨p, 0, none⟩ v).setCell ⟨w.heap.size, 0, none⟩ u).setCell ⟨w.heap.size, 1, none⟩ u')).cell? ⟨w.heap.size, 1, none⟩ = some u' ∧ ((w4.setCell ⟨p, 0, none⟩ v).setCell ⟨w.heap.size, 0, none⟩ u).cell? ⟨w.heap.size, 0, none⟩ = some u) := hid (fun v u u' => by
      have a0 : (w4.setCell ⟨p, 0, none⟩ v).cell? ⟨w.heap.size, 0, none⟩ = some (.int .i64 0) := by rw [World.cell?_setCell_other _ _ _ _ (by simp [hnp, hnp2])]; exact q0
      have a1 : ((w4.setCell ⟨p, 0, none⟩ v).setCell ⟨w.heap.size, 0, none⟩ u).cell? ⟨w.heap.size, 1, none⟩ = some (.int .i64 0) := by rw [World.cell?_setCell_other _ _ _ _ (by simp), World.cell?_setCell_other _ _ _ _ (by simp [hnp, hnp2])]; exact q1
      exact ⟨World.cell?_setCell_same _ _ _ a1, World.cell?_setCell_same _ _ _ a0⟩)
    clear hlk hr2 hr4 him him4 up4 own4 lr4 lr2 ou4 t2 t3 hg2 e1 e2 e3 h1 h hx hm t1 fz4 blt b4 pm' bm' g1 hn'
    generalize row.length = n at *
    subst hw1
    clear s1 z2 z4
    go_enter Try.func74, Try.ntmps74
    go_wp2_with (first
      | (at_lookup; refine wpList_lookw _ rfl _ _ true rfl _ rfl _ rfl _ HLK.out ?_)
      | (at_mapUpdate; refine wpList_putw _ rfl _ _ _ rfl _ rfl _ rfl _ rfl w2 HR2.out ?_)
      | (at_builtin; refine wpList_app _ rfl _ _ _ _ rfl _ _ rfl rfl _ w4 HR4.out ?_))
    refine bodyPost_ret (v := .agg #[.int .i64 2, .int .i64 (n : Int)]) (by simp [results, Try.results74, go_sem, (K2.out _ _ _).1, (K2.out _ _ (.int .i64 0)).2]) rfl ?_
    exact ⟨_, rfl, (HFIN.out _ _).2, (HFIN.out _ _).1⟩
end Go.Proofs.Ytlkbnjdhokjfnaa
