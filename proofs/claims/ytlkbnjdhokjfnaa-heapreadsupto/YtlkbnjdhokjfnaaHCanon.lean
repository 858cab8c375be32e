/-
  heap: Canon, equal, Same.
-/
import Derived.Test.YtlkbnjdhokjfnaaHReached2
namespace Go.Proofs.Ytlkbnjdhokjfnaa
set_option linter.unusedSimpArgs false
set_option linter.unusedVariables false
open Go.RowKit
attribute [local go_sem ↓] Go.wp_at_zero Go.wp_at_succ

def eqG (ts ts' : List Th) (rs rs' : List Rf) : Bool := decide (rs = rs') && decide (ts.map Th.pl = ts'.map Th.pl)

set_option maxHeartbeats 4000000 in
set_option maxRecDepth 100000 in
theorem equal_raw (tv rv tv' rv' : Value) (ts ts' : List Th) (rs rs' : List Rf) (w : World) (h : GA w tv rv ts rs) (h' : GA w tv' rv' ts' rs') :
    Calls Try.prog 42 #[.agg #[tv, rv], .agg #[tv', rv']] w fun e w' => e = .returned (.bool (eqG ts ts' rs rs')) ∧ Tn No w w' := by
  obtain ⟨wB, hwB⟩ : ∃ wB, (w.alloc (.cells #[tv, rv] 27)).alloc (.cells #[tv', rv'] 27) = wB := ⟨_, rfl⟩
  have tB : Tn No w wB := by rw [← hwB]; exact ((Tn.refl No w).alloc _).alloc _
  have sB : wB.heap.size = w.heap.size + 2 := by rw [← hwB]; simp
  have b1 : wB.heap[w.heap.size]? = some (.cells #[tv, rv] 27 (0, 0)) := by
    rw [← hwB, Below.heap_alloc _ _ _ (by simp)]; exact heap_alloc_new w _
  have b2 : wB.heap[w.heap.size + 1]? = some (.cells #[tv', rv'] 27 (0, 0)) := by
    have := heap_alloc_new (w.alloc (.cells #[tv, rv] 27)) (.cells #[tv', rv'] 27)
    rw [hwB] at this
    simpa using this
  have HE : Hid (Calls Try.prog 60 #[rv, rv'] wB fun e w' => e = .returned (.bool (decide (rs = rs'))) ∧ w'.cell? ⟨w.heap.size, 0, none⟩ = some tv ∧ w'.cell? ⟨w.heap.size + 1, 0, none⟩ = some tv' ∧ w.heap.size + 1 < w'.heap.size ∧ Tn No wB w') := hid (by
    refine (sEqual_raw rv rv' rs rs' wB (h.roots.no tB) (h'.roots.no tB) h.rlen h'.rlen).mono ?_
    rintro e w' ⟨he, t⟩
    have z := t.size
    exact ⟨he, by rw [t.cell (by omega) (fun e => e)]; simp only [World.cell?, b1]; rfl, by rw [t.cell (by omega) (fun e => e)]; simp only [World.cell?, b2]; rfl, by omega, t⟩)
  have HF : Hid (∀ u, Tn No wB u → Calls Try.prog 61 #[tv, tv', .func (.func 62) #[] #[]] u fun e w' => e = .returned (.bool (decide (ts.map Th.pl = ts'.map Th.pl))) ∧ Tn No u w') :=
    hid (fun u t => eqFunc_raw tv tv' ts ts' u ((h.no (tB.then t)).tl) ((h'.no (tB.then t)).tl))
  have HTB := hid tB
  obtain ⟨ra, rc, hrv, _⟩ := h.roots
  obtain ⟨ta, tc, htv, _⟩ := h.things
  obtain ⟨ra', rc', hrv', _⟩ := h'.roots
  obtain ⟨ta', tc', htv', _⟩ := h'.things
  subst hrv htv hrv' htv'
  obtain ⟨q1, hq1⟩ : ∃ q, decide (rs = rs') = q := ⟨_, rfl⟩
  obtain ⟨q2, hq2⟩ : ∃ q, decide (ts.map Th.pl = ts'.map Th.pl) = q := ⟨_, rfl⟩
  unfold eqG
  rw [hq1] at HE ⊢
  rw [hq2] at HF ⊢
  clear h h' tB hq1 hq2 b1 b2
  subst hwB
  clear sB
  cases q1
  · go_enter Try.func42, Try.ntmps42
    go_wp2_with (go_at_call 60; refine HE.out.mono ?_; rintro e w2 ⟨rfl, y0, y1, y2, t2⟩; have HT2 := hid t2; clear t2)
    go_ret
    exact ⟨rfl, HTB.out.then HT2.out⟩
  · go_enter Try.func42, Try.ntmps42
    go_wp2_with (first
      | (go_at_call 60; refine HE.out.mono ?_; rintro e w2 ⟨rfl, y0, y1, y2, t2⟩; have y3 : w.heap.size < w2.heap.size := (by omega); have HT2 := hid t2; clear t2)
      | (go_at_call 61; refine (HF.out _ HT2.out).mono ?_; rintro e w3 ⟨rfl, t3⟩; have HT3 := hid t3; clear t3))
    go_ret
    exact ⟨rfl, (HTB.out.then HT2.out).then HT3.out⟩

set_option maxHeartbeats 4000000 in
set_option maxRecDepth 100000 in
theorem canon_bad (tv rv : Value) (ts : List Th) (rs : List Rf) (w : World) (h : GA w tv rv ts rs) (hm : mayG ts rs = false) :
    Calls Try.prog 18 #[.agg #[tv, rv]] w fun e w' => e = .returned (.tuple #[.agg #[.slice none 0 0, .slice none 0 0], .int .i64 141]) ∧ Tn No w w' := by
  obtain ⟨wB, hwB⟩ : ∃ wB, (w.alloc (.cells #[tv, rv] 27)).alloc (.cells #[.slice none 0 0, .slice none 0 0] 27) = wB := ⟨_, rfl⟩
  have tB : Tn No w wB := by rw [← hwB]; exact ((Tn.refl No w).alloc _).alloc _
  have sB : wB.heap.size = w.heap.size + 2 := by rw [← hwB]; simp
  have b2 : wB.heap[w.heap.size + 1]? = some (.cells #[.slice none 0 0, .slice none 0 0] 27 (0, 0)) := by
    have := heap_alloc_new (w.alloc (.cells #[tv, rv] 27)) (.cells #[.slice none 0 0, .slice none 0 0] 27)
    rw [hwB] at this
    simpa using this
  have HMB : Hid (Calls Try.prog 35 #[.agg #[tv, rv]] wB fun e w' => e = .returned (.bool false) ∧ w'.cell? ⟨w.heap.size + 1, 0, none⟩ = some (.slice none 0 0) ∧ w'.cell? ⟨w.heap.size + 1, 1, none⟩ = some (.slice none 0 0) ∧ w'.frozen? ⟨w.heap.size + 1, 0, none⟩ = false ∧ w'.frozen? ⟨w.heap.size + 1, 1, none⟩ = false ∧ w.heap.size + 1 < w'.heap.size ∧ Tn No w w') := hid (by
    refine (mayBe_raw tv rv ts rs wB (h.no tB)).mono ?_
    rintro e w' ⟨he, t⟩
    have z := t.size
    rw [hm] at he
    refine ⟨he, by rw [t.cell (by omega) (fun e => e)]; simp only [World.cell?, b2]; rfl, by rw [t.cell (by omega) (fun e => e)]; simp only [World.cell?, b2]; rfl, by rw [t.frozen (by omega) (fun e => e)]; simp only [World.frozen?, b2]; rfl, by rw [t.frozen (by omega) (fun e => e)]; simp only [World.frozen?, b2]; rfl, by omega, tB.then t⟩)
  obtain ⟨ra, rc, hrv, _⟩ := h.roots
  obtain ⟨ta, tc, htv, _⟩ := h.things
  subst hrv htv
  clear h tB b2 hm
  subst hwB
  clear sB
  go_enter Try.func18, Try.ntmps18
  go_wp2_with (go_at_call 35; refine HMB.out.mono ?_; rintro e w2 ⟨rfl, y0, y1, y2, y3, y4, t2⟩; have HT2 : Hid (∀ a a', Tn No w ((w2.setCell ⟨w.heap.size + 1, 0, none⟩ a).setCell ⟨w.heap.size + 1, 1, none⟩ a')) := hid (fun a a' => (t2.set _ _ (by intro h; simp at h; omega)).set _ _ (by intro h; simp at h; omega)); clear t2)
  have K2 : Hid (∀ a a', ((w2.setCell ⟨w.heap.size + 1, 0, none⟩ a).setCell ⟨w.heap.size + 1, 1, none⟩ a').cell? ⟨w.heap.size + 1, 1, none⟩ = some a' ∧ (w2.setCell ⟨w.heap.size + 1, 0, none⟩ a).cell? ⟨w.heap.size + 1, 0, none⟩ = some a) := hid (fun a a' => by
    have a1 : (w2.setCell ⟨w.heap.size + 1, 0, none⟩ a).cell? ⟨w.heap.size + 1, 1, none⟩ = some (.slice none 0 0) := by rw [World.cell?_setCell_other _ _ _ _ (by simp)]; exact y1
    exact ⟨World.cell?_setCell_same _ _ _ a1, World.cell?_setCell_same _ _ _ y0⟩)
  refine bodyPost_ret (v := .tuple #[.agg #[.slice none 0 0, .slice none 0 0], .int .i64 141]) (by simp [results, Try.results18, go_sem, (K2.out _ _).1, (K2.out _ (.int .i64 0)).2]) rfl ?_
  exact ⟨rfl, HT2.out _ _⟩

def CanonPost (ts : List Th) (rs : List Rf) (w : World) (e : Ending) (w' : World) : Prop :=
  ∃ tv rv out ros, e = .returned (.tuple #[.agg #[tv, rv], .int .i64 0]) ∧ Made w tv rv out ros w' ∧ Hp.Canon (Hp.nth (ts.map Th.nd)) (rs.map vOf) (out.map Th.nd) (ros.map vOf)

set_option maxHeartbeats 4000000 in
set_option maxRecDepth 100000 in
theorem canon_ok (tv rv : Value) (ts : List Th) (rs : List Rf) (w : World) (h : GA w tv rv ts rs) (hm : mayG ts rs = true) :
    Calls Try.prog 18 #[.agg #[tv, rv]] w (CanonPost ts rs w) := by
  obtain ⟨wB, hwB⟩ : ∃ wB, (w.alloc (.cells #[tv, rv] 27)).alloc (.cells #[.slice none 0 0, .slice none 0 0] 27) = wB := ⟨_, rfl⟩
  have tB : Tn No w wB := by rw [← hwB]; exact ((Tn.refl No w).alloc _).alloc _
  have sB : wB.heap.size = w.heap.size + 2 := by rw [← hwB]; simp
  have b1 : wB.heap[w.heap.size]? = some (.cells #[tv, rv] 27 (0, 0)) := by
    rw [← hwB, Below.heap_alloc _ _ _ (by simp)]; exact heap_alloc_new w _
  have b2 : wB.heap[w.heap.size + 1]? = some (.cells #[.slice none 0 0, .slice none 0 0] 27 (0, 0)) := by
    have := heap_alloc_new (w.alloc (.cells #[tv, rv] 27)) (.cells #[.slice none 0 0, .slice none 0 0] 27)
    rw [hwB] at this
    simpa using this
  have HMB : Hid (Calls Try.prog 35 #[.agg #[tv, rv]] wB fun e w' => e = .returned (.bool true) ∧ w'.cell? ⟨w.heap.size, 0, none⟩ = some tv ∧ w'.cell? ⟨w.heap.size, 1, none⟩ = some rv ∧ w.heap.size < w'.heap.size ∧ Tn No wB w') := hid (by
    refine (mayBe_raw tv rv ts rs wB (h.no tB)).mono ?_
    rintro e w' ⟨he, t⟩
    have z := t.size
    rw [hm] at he
    refine ⟨he, by rw [t.cell (by omega) (fun e => e)]; simp only [World.cell?, b1]; rfl, by rw [t.cell (by omega) (fun e => e)]; simp only [World.cell?, b1]; rfl, by omega, t⟩)
  have HRE : Hid (∀ u, Tn No wB u → Calls Try.prog 40 #[.agg #[tv, rv]] u fun e w' => ∃ tv' rv' out ros, e = .returned (.agg #[tv', rv']) ∧ ((∃ a n c, tv' = .slice a n c) ∧ (∃ a n c, rv' = .slice a n c)) ∧ (w'.cell? ⟨w.heap.size + 1, 0, none⟩ = some (.slice none 0 0) ∧ w'.cell? ⟨w.heap.size + 1, 1, none⟩ = some (.slice none 0 0) ∧ w'.frozen? ⟨w.heap.size + 1, 0, none⟩ = false ∧ w'.frozen? ⟨w.heap.size + 1, 1, none⟩ = false ∧ w.heap.size + 1 < w'.heap.size) ∧
      (∀ a a', Made w tv' rv' out ros ((w'.setCell ⟨w.heap.size + 1, 0, none⟩ a).setCell ⟨w.heap.size + 1, 1, none⟩ a')) ∧ Hp.Canon (Hp.nth (ts.map Th.nd)) (rs.map vOf) (out.map Th.nd) (ros.map vOf)) := hid (fun u t => by
    refine (reached_raw tv rv ts rs u (h.no (tB.then t)) hm).mono ?_
    rintro e w' ⟨tv', rv', out, ros, he, hmd, hcan⟩
    have z := t.size
    have z' := hmd.tn.size
    have t' := t.then hmd.tn
    obtain ⟨oa, oc, hof, _⟩ := hmd.go.things.rw.form
    obtain ⟨oa', oc', hof', _⟩ := hmd.go.roots.rw.form
    refine ⟨tv', rv', out, ros, he, ⟨⟨oa, _, oc, hof⟩, ⟨oa', _, oc', hof'⟩⟩, ⟨by rw [t'.cell (by omega) (fun e => e)]; simp only [World.cell?, b2]; rfl, by rw [t'.cell (by omega) (fun e => e)]; simp only [World.cell?, b2]; rfl, by rw [t'.frozen (by omega) (fun e => e)]; simp only [World.frozen?, b2]; rfl, by rw [t'.frozen (by omega) (fun e => e)]; simp only [World.frozen?, b2]; rfl, by omega⟩, fun a a' => ?_, hcan⟩
    have t9 : Tn (fun k => k = w.heap.size + 1) w' ((w'.setCell ⟨w.heap.size + 1, 0, none⟩ a).setCell ⟨w.heap.size + 1, 1, none⟩ a') := ((Tn.refl (fun k => k = w.heap.size + 1) w').set _ _ (fun _ => rfl)).set _ _ (fun _ => rfl)
    exact ⟨(hmd.go.kept t9 (fun k e => by omega)).lower (by omega), (tB.then t').trans t9 (fun _ _ e => e) (fun i hi e => by omega), hmd.okt, hmd.okr⟩)
  obtain ⟨ra, rc, hrv, _⟩ := h.roots
  obtain ⟨ta, tc, htv, _⟩ := h.things
  subst hrv htv
  clear h tB b1 b2 hm
  subst hwB
  clear sB
  go_enter Try.func18, Try.ntmps18
  go_wp2_with (first
    | (go_at_call 35; refine HMB.out.mono ?_; rintro e w2 ⟨rfl, y0, y1, y2, t2⟩; have HT2 := hid t2; clear t2)
    | (go_at_call 40; refine (HRE.out _ HT2.out).mono ?_; rintro e w3 ⟨tv', rv', out, ros, rfl, ⟨⟨oa, on, oc, rfl⟩, ⟨oa', on', oc', rfl⟩⟩, ⟨z0, z1, z2, z3, z4⟩, hmd, hcan⟩; have HMD := hid hmd; have HCAN := hid hcan; clear hmd hcan))
  have K2 : Hid (∀ a a', ((w3.setCell ⟨w.heap.size + 1, 0, none⟩ a).setCell ⟨w.heap.size + 1, 1, none⟩ a').cell? ⟨w.heap.size + 1, 1, none⟩ = some a' ∧ (w3.setCell ⟨w.heap.size + 1, 0, none⟩ a).cell? ⟨w.heap.size + 1, 0, none⟩ = some a) := hid (fun a a' => by
    have a1 : (w3.setCell ⟨w.heap.size + 1, 0, none⟩ a).cell? ⟨w.heap.size + 1, 1, none⟩ = some (.slice none 0 0) := by rw [World.cell?_setCell_other _ _ _ _ (by simp)]; exact z1
    exact ⟨World.cell?_setCell_same _ _ _ a1, World.cell?_setCell_same _ _ _ z0⟩)
  refine bodyPost_ret (v := .tuple #[.agg #[.slice oa on oc, .slice oa' on' oc'], .int .i64 0]) (by simp [results, Try.results18, go_sem, (K2.out _ _).1, (K2.out _ (.int .i64 0)).2]) rfl ?_
  exact ⟨_, _, _, _, rfl, HMD.out _ _, HCAN.out⟩
end Go.Proofs.Ytlkbnjdhokjfnaa
