/-
  heap: Same.
-/
import Derived.Test.YtlkbnjdhokjfnaaHCanon
namespace Go.Proofs.Ytlkbnjdhokjfnaa
set_option linter.unusedSimpArgs false
set_option linter.unusedVariables false
open Go.RowKit
attribute [local go_sem ↓] Go.wp_at_zero Go.wp_at_succ

/-- two graphs hold the same -/
def SameP (ts : List Th) (rs : List Rf) (ts' : List Th) (rs' : List Rf) : Prop :=
  mayG ts rs = true ∧ mayG ts' rs' = true ∧ ∃ cs os, Hp.Canon (Hp.nth (ts.map Th.nd)) (rs.map vOf) cs os ∧ Hp.Canon (Hp.nth (ts'.map Th.nd)) (rs'.map vOf) cs os
def SamePost (ts : List Th) (rs : List Rf) (ts' : List Th) (rs' : List Rf) (w : World) (e : Ending) (w' : World) : Prop := ∃ q, e = .returned (.bool q) ∧ Tn No w w' ∧ (q = true ↔ SameP ts rs ts' rs')

theorem eq_same {ts ts' out out' : List Th} {rs rs' ros ros' : List Rf} (m : mayG ts rs = true) (m' : mayG ts' rs' = true) (o1 : ∀ t ∈ out, okT t.pl) (o2 : ∀ r ∈ ros, okR r) (o1' : ∀ t ∈ out', okT t.pl) (o2' : ∀ r ∈ ros', okR r)
    (h : Hp.Canon (Hp.nth (ts.map Th.nd)) (rs.map vOf) (out.map Th.nd) (ros.map vOf)) (h' : Hp.Canon (Hp.nth (ts'.map Th.nd)) (rs'.map vOf) (out'.map Th.nd) (ros'.map vOf)) : eqG out out' ros ros' = true ↔ SameP ts rs ts' rs' := by
  unfold eqG SameP
  rw [Bool.and_eq_true, decide_eq_true_eq, decide_eq_true_eq, rfs_iff o2 o2', nds_iff o1 o1']
  constructor
  · rintro ⟨e1, e2⟩
    refine ⟨m, m', _, _, h, ?_⟩
    rw [e1, e2]; exact h'
  · rintro ⟨_, _, cs, os, k, k'⟩
    obtain ⟨a1, a2⟩ := h.same k
    obtain ⟨b1, b2⟩ := h'.same k'
    exact ⟨a2.trans b2.symm, a1.trans b1.symm⟩

set_option maxHeartbeats 8000000 in
set_option maxRecDepth 100000 in
theorem same_raw (tv rv tv' rv' : Value) (ts ts' : List Th) (rs rs' : List Rf) (w : World) (h : GA w tv rv ts rs) (h' : GA w tv' rv' ts' rs') :
    Calls Try.prog 21 #[.agg #[tv, rv], .agg #[tv', rv']] w (SamePost ts rs ts' rs' w) := by
  obtain ⟨wB, hwB⟩ : ∃ wB, (w.alloc (.cells #[tv, rv] 27)).alloc (.cells #[tv', rv'] 27) = wB := ⟨_, rfl⟩
  have tB : Tn No w wB := by rw [← hwB]; exact ((Tn.refl No w).alloc _).alloc _
  have sB : wB.heap.size = w.heap.size + 2 := by rw [← hwB]; simp
  have b1 : wB.heap[w.heap.size]? = some (.cells #[tv, rv] 27 (0, 0)) := by
    rw [← hwB, Below.heap_alloc _ _ _ (by simp)]; exact heap_alloc_new w _
  have b2 : wB.heap[w.heap.size + 1]? = some (.cells #[tv', rv'] 27 (0, 0)) := by
    have := heap_alloc_new (w.alloc (.cells #[tv, rv] 27)) (.cells #[tv', rv'] 27)
    rw [hwB] at this
    simpa using this
  obtain ⟨S, hS⟩ : ∃ S : World → Prop, S = fun w' => w'.cell? ⟨w.heap.size, 0, none⟩ = some tv ∧ w'.cell? ⟨w.heap.size, 1, none⟩ = some rv ∧ w'.cell? ⟨w.heap.size + 1, 0, none⟩ = some tv' ∧ w'.cell? ⟨w.heap.size + 1, 1, none⟩ = some rv' ∧ w.heap.size + 1 < w'.heap.size := ⟨_, rfl⟩
  have HS : ∀ u, Tn No wB u → S u := by
    intro u t
    have z := t.size
    rw [hS]
    exact ⟨by rw [t.cell (by omega) (fun e => e)]; simp only [World.cell?, b1]; rfl, by rw [t.cell (by omega) (fun e => e)]; simp only [World.cell?, b1]; rfl, by rw [t.cell (by omega) (fun e => e)]; simp only [World.cell?, b2]; rfl, by rw [t.cell (by omega) (fun e => e)]; simp only [World.cell?, b2]; rfl, by omega⟩
  have HM1 : Hid (∀ u, Tn No wB u → Calls Try.prog 35 #[.agg #[tv, rv]] u fun e w' => e = .returned (.bool (mayG ts rs)) ∧ S w' ∧ Tn No wB w') := hid (fun u t => (mayBe_raw tv rv ts rs u (h.no (tB.then t))).mono (fun e w' ⟨he, t'⟩ => ⟨he, HS _ (t.then t'), t.then t'⟩))
  have HM2 : Hid (∀ u u', Tn No wB u → Tn No u u' → Calls Try.prog 35 #[.agg #[tv', rv']] u' fun e w' => e = .returned (.bool (mayG ts' rs')) ∧ S w' ∧ Tn No wB w') := hid (fun u u' t t1 => (mayBe_raw tv' rv' ts' rs' u' (h'.no (tB.then (t.then t1)))).mono (fun e w' ⟨he, t'⟩ => ⟨he, HS _ ((t.then t1).then t'), (t.then t1).then t'⟩))
  have HR1 : Hid (mayG ts rs = true → ∀ u u', Tn No wB u → Tn No u u' → Calls Try.prog 40 #[.agg #[tv, rv]] u' fun e w' => ∃ tv1 rv1 out ros, e = .returned (.agg #[tv1, rv1]) ∧ S w' ∧ Tn No wB w' ∧ GA w' tv1 rv1 out ros ∧ (∀ t ∈ out, okT t.pl) ∧ (∀ r ∈ ros, okR r) ∧ Hp.Canon (Hp.nth (ts.map Th.nd)) (rs.map vOf) (out.map Th.nd) (ros.map vOf)) := hid (fun hm u u' t t1 =>
    (reached_raw tv rv ts rs u' (h.no (tB.then (t.then t1))) hm).mono (fun e w' ⟨tv1, rv1, out, ros, he, hmd, hc⟩ => ⟨tv1, rv1, out, ros, he, HS _ ((t.then t1).then hmd.tn), (t.then t1).then hmd.tn, hmd.go.ga, hmd.okt, hmd.okr, hc⟩))
  have HR2 : Hid (mayG ts' rs' = true → ∀ u u', Tn No wB u → Tn No u u' → Calls Try.prog 40 #[.agg #[tv', rv']] u' fun e w' => ∃ tv1 rv1 out ros, e = .returned (.agg #[tv1, rv1]) ∧ S w' ∧ Tn No wB w' ∧ Tn No u w' ∧ GA w' tv1 rv1 out ros ∧ (∀ t ∈ out, okT t.pl) ∧ (∀ r ∈ ros, okR r) ∧ Hp.Canon (Hp.nth (ts'.map Th.nd)) (rs'.map vOf) (out.map Th.nd) (ros.map vOf)) := hid (fun hm u u' t t1 =>
    (reached_raw tv' rv' ts' rs' u' (h'.no (tB.then (t.then t1))) hm).mono (fun e w' ⟨tv1, rv1, out, ros, he, hmd, hc⟩ => ⟨tv1, rv1, out, ros, he, HS _ ((t.then t1).then hmd.tn), (t.then t1).then hmd.tn, t1.then hmd.tn, hmd.go.ga, hmd.okt, hmd.okr, hc⟩))
  have HEQ : Hid (∀ u u' tv1 rv1 tv2 rv2 out1 ros1 out2 ros2, Tn No wB u → Tn No u u' → GA u tv1 rv1 out1 ros1 → GA u tv2 rv2 out2 ros2 → Calls Try.prog 42 #[.agg #[tv1, rv1], .agg #[tv2, rv2]] u' fun e w' => e = .returned (.bool (eqG out1 out2 ros1 ros2)) ∧ S w' ∧ Tn No wB w') := hid (fun u u' tv1 rv1 tv2 rv2 out1 ros1 out2 ros2 t t1 g1 g2 =>
    (equal_raw tv1 rv1 tv2 rv2 out1 out2 ros1 ros2 u' (g1.no t1) (g2.no t1)).mono (fun e w' ⟨he, t'⟩ => ⟨he, HS _ ((t.then t1).then t'), (t.then t1).then t'⟩))
  have HTB := hid tB
  obtain ⟨S0, S1, S2, S3, S4⟩ := hS ▸ HS wB (Tn.refl _ _)
  obtain ⟨ra, rc, hrv, _⟩ := h.roots
  obtain ⟨ta, tc, htv, _⟩ := h.things
  obtain ⟨ra', rc', hrv', _⟩ := h'.roots
  obtain ⟨ta', tc', htv', _⟩ := h'.things
  subst hS
  subst hrv htv hrv' htv'
  obtain ⟨q1, hq1⟩ : ∃ q, mayG ts rs = q := ⟨_, rfl⟩
  obtain ⟨q2, hq2⟩ : ∃ q, mayG ts' rs' = q := ⟨_, rfl⟩
  rw [hq1] at HM1
  rw [hq2] at HM2
  have HQ1 := hid hq1
  have HQ2 := hid hq2
  clear h h' tB hq1 hq2 b1 b2 HS
  subst hwB
  clear sB S0 S1 S2 S3 S4
  cases q1
  · have HF : Hid (false = true ↔ SameP ts rs ts' rs') := hid (by simp [SameP, HQ1.out])
    clear HR1 HR2 HEQ HM2 HQ1 HQ2
    go_enter Try.func21, Try.ntmps21
    go_wp2_with fail
    go_region_with (first
        | (go_at_call 35; refine (HM1.out _ (by repeat (first | exact Tn.refl _ _ | apply Tn.drew | apply Tn.drewN | apply Tn.alloc | (refine Tn.then ?_ (by assumption)) | (refine Tn.thenNo ?_ (by assumption))))).mono ?_; rintro e w2 ⟨rfl, ⟨y0, y1, y2, y3, y4⟩, t2⟩; have HT2 := hid t2; clear t2))
    all_goals
      go_wp2
      go_ret
      exact ⟨_, rfl, HTB.out.then HT2.out, HF.out⟩
  · cases q2
    · have HF : Hid (false = true ↔ SameP ts rs ts' rs') := hid (by simp [SameP, HQ2.out])
      clear HR1 HR2 HEQ HQ1 HQ2
      go_enter Try.func21, Try.ntmps21
      go_wp2_with fail
      go_region_with (first
          | (go_at_call 35; refine (HM2.out w2 _ HT2.out (by repeat (first | exact Tn.refl _ _ | apply Tn.drew | apply Tn.drewN | apply Tn.alloc | (refine Tn.then ?_ (by assumption)) | (refine Tn.thenNo ?_ (by assumption))))).mono ?_; rintro e w3 ⟨rfl, ⟨y0, y1, y2, y3, y4⟩, t3⟩; have HT3 := hid t3; clear t3)
          | (go_at_call 35; refine (HM1.out _ (by repeat (first | exact Tn.refl _ _ | apply Tn.drew | apply Tn.drewN | apply Tn.alloc | (refine Tn.then ?_ (by assumption)) | (refine Tn.thenNo ?_ (by assumption))))).mono ?_; rintro e w2 ⟨rfl, ⟨y0, y1, y2, y3, y4⟩, t2⟩; have HT2 := hid t2; clear t2))
      all_goals
        go_wp2
        go_ret
        exact ⟨_, rfl, HTB.out.then HT3.out, HF.out⟩
    · have HF : Hid (∀ out1 ros1 out2 ros2, (∀ t ∈ out1, okT t.pl) → (∀ r ∈ ros1, okR r) → (∀ t ∈ out2, okT t.pl) → (∀ r ∈ ros2, okR r) → Hp.Canon (Hp.nth (ts.map Th.nd)) (rs.map vOf) (out1.map Th.nd) (ros1.map vOf) → Hp.Canon (Hp.nth (ts'.map Th.nd)) (rs'.map vOf) (out2.map Th.nd) (ros2.map vOf) → (eqG out1 out2 ros1 ros2 = true ↔ SameP ts rs ts' rs')) := hid (fun _ _ _ _ a b c d e f => eq_same HQ1.out HQ2.out a b c d e f)
      have HR1' := hid (HR1.out HQ1.out)
      have HR2' := hid (HR2.out HQ2.out)
      clear HR1 HR2 HQ1 HQ2
      go_enter Try.func21, Try.ntmps21
      go_wp2_with fail
      go_region_held3 (fun w' => w'.cell? ⟨w.heap.size, 0, none⟩ = some (.slice ta ts.length tc) ∧ w'.cell? ⟨w.heap.size, 1, none⟩ = some (.slice ra rs.length rc) ∧ w'.cell? ⟨w.heap.size + 1, 0, none⟩ = some (.slice ta' ts'.length tc') ∧ w'.cell? ⟨w.heap.size + 1, 1, none⟩ = some (.slice ra' rs'.length rc') ∧ w.heap.size + 1 < w'.heap.size) (go_keep)
        (first
          | (go_at_call 42; refine (HEQ.out w5 _ tv4 rv4 tv5 rv5 out4 ros4 out5 ros5 HT5.out (by repeat (first | exact Tn.refl _ _ | apply Tn.drew | apply Tn.drewN | apply Tn.alloc | (refine Tn.then ?_ (by assumption)) | (refine Tn.thenNo ?_ (by assumption)))) HG4'.out HG5.out).mono ?_; rintro e w6 ⟨rfl, ⟨y0, y1, y2, y3, y4⟩, t6⟩; have HT6 := hid t6; clear t6)
          | (go_at_call 40; refine (HR2'.out w4 _ HT4.out (by repeat (first | exact Tn.refl _ _ | apply Tn.drew | apply Tn.drewN | apply Tn.alloc | (refine Tn.then ?_ (by assumption)) | (refine Tn.thenNo ?_ (by assumption))))).mono ?_; rintro e w5 ⟨tv5, rv5, out5, ros5, rfl, ⟨y0, y1, y2, y3, y4⟩, t5, t45, g5, o5, p5, c5⟩; have HT5 := hid t5; have HG5 := hid g5; have HG4' := hid (HG4.out.no t45); have HF5 := hid (HF4.out _ _ o5 p5 c5); clear t5 t45 g5 o5 p5 c5)
          | (go_at_call 40; refine (HR1'.out w3 _ HT3.out (by repeat (first | exact Tn.refl _ _ | apply Tn.drew | apply Tn.drewN | apply Tn.alloc | (refine Tn.then ?_ (by assumption)) | (refine Tn.thenNo ?_ (by assumption))))).mono ?_; rintro e w4 ⟨tv4, rv4, out4, ros4, rfl, ⟨y0, y1, y2, y3, y4⟩, t4, g4, o4, p4, c4⟩; have HT4 := hid t4; have HG4 := hid g4; have HF4 := hid (fun out2 ros2 o5 p5 c5 => HF.out out4 ros4 out2 ros2 o4 p4 o5 p5 c4 c5); clear t4 g4 o4 p4 c4)
          | (go_at_call 35; refine (HM2.out w2 _ HT2.out (by repeat (first | exact Tn.refl _ _ | apply Tn.drew | apply Tn.drewN | apply Tn.alloc | (refine Tn.then ?_ (by assumption)) | (refine Tn.thenNo ?_ (by assumption))))).mono ?_; rintro e w3 ⟨rfl, ⟨y0, y1, y2, y3, y4⟩, t3⟩; have HT3 := hid t3; clear t3)
          | (go_at_call 35; refine (HM1.out _ (by repeat (first | exact Tn.refl _ _ | apply Tn.drew | apply Tn.drewN | apply Tn.alloc | (refine Tn.then ?_ (by assumption)) | (refine Tn.thenNo ?_ (by assumption))))).mono ?_; rintro e w2 ⟨rfl, ⟨y0, y1, y2, y3, y4⟩, t2⟩; have HT2 := hid t2; clear t2))
      go_wp2
      go_ret
      exact ⟨_, rfl, HTB.out.then HT6.out, HF5.out⟩
end Go.Proofs.Ytlkbnjdhokjfnaa
