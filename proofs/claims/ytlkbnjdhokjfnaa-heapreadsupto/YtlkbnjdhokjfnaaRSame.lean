/-
  heap's reference: Same.
-/
import Derived.Test.YtlkbnjdhokjfnaaRCanA
import Derived.Test.YtlkbnjdhokjfnaaREqual
import Derived.Test.YtlkbnjdhokjfnaaHBackW
namespace Go.Proofs.Ytlkbnjdhokjfnaa
set_option linter.unusedSimpArgs false
set_option linter.unusedVariables false
open Go.RowKit
attribute [local go_sem ↓] Go.wp_at_zero Go.wp_at_succ

/-- what Canon says, whatever it is handed -/
structure CnV (ts : List Th) (rs : List Rf) (w : World) (tv rv : Value) (out : List Th) (ros : List Rf) (w' : World) : Prop where
  go : GO w' w.heap.size tv rv out ros
  tn : Tn No w w'
  bad : mayG ts rs = false → out = [] ∧ ros = []
  okt : ∀ t ∈ out, okT t.pl
  okr : ∀ r ∈ ros, okR r
  can : mayG ts rs = true → Hp.Canon (Hp.nth (ts.map Th.nd)) (rs.map vOf) (out.map Th.nd) (ros.map vOf)
def CanonAny (ts : List Th) (rs : List Rf) (w : World) (e : Ending) (w' : World) : Prop := ∃ a1 n1 c1 a2 n2 c2 out ros, e = .returned (.tuple #[.agg #[.slice a1 n1 c1, .slice a2 n2 c2], .int .i64 (cond (mayG ts rs) 0 141)]) ∧ CnV ts rs w (.slice a1 n1 c1) (.slice a2 n2 c2) out ros w'

theorem go_nil (w : World) (lo : Nat) : GO w lo (.slice none 0 0) (.slice none 0 0) [] [] :=
  ⟨LR.nil _ _ _, (fun g hg => by cases hg), (fun t ht => by cases ht), LR.nil _ _ _, (fun g hg => by cases hg), (fun r hr => by cases hr), by simp, by simp⟩
theorem canonAny_bad {ts : List Th} {rs : List Rf} {w w' : World} (hm : mayG ts rs = false) (t : Tn No w w') : CanonAny ts rs w (.returned (.tuple #[.agg #[.slice none 0 0, .slice none 0 0], .int .i64 141])) w' :=
  ⟨none, 0, 0, none, 0, 0, [], [], by rw [hm]; rfl, go_nil _ _, t, fun _ => ⟨rfl, rfl⟩, (fun t ht => by cases ht), (fun r hr => by cases hr), fun h => by rw [hm] at h; cases h⟩
theorem canonAny_ok {ts : List Th} {rs : List Rf} {w w' : World} {e : Ending} (hm : mayG ts rs = true) (h : CanonPost ts rs w e w') : CanonAny ts rs w e w' := by
  obtain ⟨tv, rv, out, ros, he, hmd, hc⟩ := h
  obtain ⟨a1, c1, e1, _⟩ := hmd.go.things.rw.form
  obtain ⟨a2, c2, e2, _⟩ := hmd.go.roots.rw.form
  subst e1 e2
  exact ⟨a1, _, c1, a2, _, c2, out, ros, by rw [hm]; exact he, hmd.go, hmd.tn, (fun h => by rw [hm] at h; cases h), hmd.okt, hmd.okr, fun _ => hc⟩
section
variable {tv rv : Value} {ts : List Th} {rs : List Rf} {w : World}
theorem rcanon_any (h : GA w tv rv ts rs) : Calls Try.prog 17 #[.agg #[tv, rv]] w (CanonAny ts rs w) := by
  cases hm : mayG ts rs with
  | false => exact (rCanon_bad tv rv ts rs w h hm).mono (fun e w' ⟨he, t⟩ => he ▸ canonAny_bad hm t)
  | true => exact (rCanon_ok tv rv ts rs w h hm).mono (fun e w' hp => canonAny_ok hm hp)
theorem canon_any (h : GA w tv rv ts rs) : Calls Try.prog 18 #[.agg #[tv, rv]] w (CanonAny ts rs w) := by
  cases hm : mayG ts rs with
  | false => exact (canon_bad tv rv ts rs w h hm).mono (fun e w' ⟨he, t⟩ => he ▸ canonAny_bad hm t)
  | true => exact (canon_ok tv rv ts rs w h hm).mono (fun e w' hp => canonAny_ok hm hp)
end

/-- two that say the same -/
theorem cnv_eq {ts us : List Th} {rs : List Rf} {w w' v v' : World} {a b c d : Value} {o1 o2 : List Th} {r1 r2 : List Rf} (hn : us.map Th.nd = ts.map Th.nd) (hm : mayG us rs = mayG ts rs) (h1 : CnV us rs w a b o1 r1 w') (h2 : CnV ts rs v c d o2 r2 v') : eqG o1 o2 r1 r2 = true := by
  cases hq : mayG ts rs with
  | false =>
    rw [hq] at hm
    obtain ⟨rfl, rfl⟩ := h1.bad hm
    obtain ⟨rfl, rfl⟩ := h2.bad hq
    rfl
  | true =>
    rw [hq] at hm
    have c1 := h1.can hm
    rw [hn] at c1
    obtain ⟨e1, e2⟩ := c1.same (h2.can hq)
    unfold eqG
    rw [Bool.and_eq_true, decide_eq_true_eq, decide_eq_true_eq]
    exact ⟨(rfs_iff h1.okr h2.okr).2 e2, (nds_iff h1.okt h2.okt).2 e1⟩

set_option maxHeartbeats 8000000 in
set_option maxRecDepth 100000 in
theorem rSame_raw (tv rv tv' rv' : Value) (ts ts' : List Th) (rs rs' : List Rf) (w : World) (h : GA w tv rv ts rs) (h' : GA w tv' rv' ts' rs') :
    Calls Try.prog 22 #[.agg #[tv, rv], .agg #[tv', rv']] w (SamePost ts rs ts' rs' w) := by
  obtain ⟨wB, hwB⟩ : ∃ wB, (w.alloc (.cells #[tv, rv] 27)).alloc (.cells #[tv', rv'] 27) = wB := ⟨_, rfl⟩
  have tB : Tn No w wB := by rw [← hwB]; exact ((Tn.refl No w).alloc _).alloc _
  have c0 : TwoC w.heap.size tv rv wB := by rw [← hwB]; exact (twoC_new w tv rv _).no ((Tn.refl No _).alloc _)
  have c1 : TwoC (w.heap.size + 1) tv' rv' wB := by
    have := twoC_new (w.alloc (.cells #[tv, rv] 27)) tv' rv' 27
    rw [hwB] at this
    simpa using this
  have HC1 : Hid (Calls Try.prog 17 #[.agg #[tv, rv]] wB fun e w1 => ∃ a1 n1 k1 a2 n2 k2 out ros, e = .returned (.tuple #[.agg #[.slice a1 n1 k1, .slice a2 n2 k2], .int .i64 (cond (mayG ts rs) 0 141)]) ∧ TwoC (w.heap.size + 1) tv' rv' w1 ∧ CnV ts rs wB (.slice a1 n1 k1) (.slice a2 n2 k2) out ros w1) := hid ((rcanon_any (h.no tB)).mono (fun e w1 ⟨a1, n1, k1, a2, n2, k2, out, ros, he, hv⟩ => ⟨a1, n1, k1, a2, n2, k2, out, ros, he, c1.no hv.tn, hv⟩))
  have HC2 : Hid (∀ w1 t1 r1, Tn No wB w1 → Calls Try.prog 17 #[.agg #[tv', rv']] (w1.alloc (.cells #[t1, r1] 27)) fun e w2 => ∃ a1 n1 k1 a2 n2 k2 out ros, e = .returned (.tuple #[.agg #[.slice a1 n1 k1, .slice a2 n2 k2], .int .i64 (cond (mayG ts' rs') 0 141)]) ∧ TwoC w1.heap.size t1 r1 w2 ∧ CnV ts' rs' (w1.alloc (.cells #[t1, r1] 27)) (.slice a1 n1 k1) (.slice a2 n2 k2) out ros w2) := hid (fun w1 t1 r1 t => (rcanon_any (h'.no ((tB.then t).alloc _))).mono (fun e w2 ⟨a1, n1, k1, a2, n2, k2, out, ros, he, hv⟩ => ⟨a1, n1, k1, a2, n2, k2, out, ros, he, (twoC_new w1 t1 r1 _).no hv.tn, hv⟩))
  have HTB := hid tB
  obtain ⟨s0, s1, s2⟩ := c0
  obtain ⟨ra, rc, hrv, -⟩ := h.roots
  obtain ⟨ta, tc, htv, -⟩ := h.things
  obtain ⟨ra', rc', hrv', -⟩ := h'.roots
  obtain ⟨ta', tc', htv', -⟩ := h'.things
  subst hrv htv hrv' htv'
  obtain ⟨q1, hq1⟩ : ∃ q, mayG ts rs = q := ⟨_, rfl⟩
  obtain ⟨q2, hq2⟩ : ∃ q, mayG ts' rs' = q := ⟨_, rfl⟩
  rw [hq1] at HC1
  rw [hq2] at HC2
  have HFIN : Hid (∀ b, (∀ out1 ros1 out2 ros2 u u1 v v1 a b' c d, CnV ts rs u a b' out1 ros1 u1 → CnV ts' rs' v c d out2 ros2 v1 → b = eqG out1 out2 ros1 ros2 → ((q1 && q2 && b) = true ↔ SameP ts rs ts' rs'))) := hid (fun b out1 ros1 out2 ros2 u u1 v v1 a b' c d h1 h2 hb => by
    subst hb
    cases q1
    · simp [SameP, hq1]
    · cases q2
      · simp [SameP, hq2]
      · simp only [Bool.true_and]
        exact eq_same hq1 hq2 h1.okt h1.okr h2.okt h2.okr (h1.can hq1) (h2.can hq2))
  clear h h' tB c1 hq1 hq2 s0 s1 s2
  subst hwB
  cases q1 <;> cases q2
  all_goals
    go_enter Try.func22, Try.ntmps22
    go_wp2_with (first
      | (go_at_call 19; refine HEQ.out.mono ?_; rintro e w3 ⟨rfl, t3⟩; have HT3 := hid t3; clear t3)
      | (go_at_call 17; refine (HC2.out w1 _ _ HV1.out.tn).mono ?_; rintro e w2 ⟨a3, n3, k3, a4, n4, k4, out2, ros2, rfl, ⟨y0, y1, y2⟩, hv2⟩; have HV2 := hid hv2; have HEQ := hid (rEqual_raw _ _ _ _ _ _ _ _ (w2.alloc (.cells #[.slice a3 n3 k3, .slice a4 n4 k4] 27)) (((HV1.out.go.ga.no ((Tn.refl No w1).alloc _)).no hv2.tn).no ((Tn.refl No w2).alloc _)) (hv2.go.ga.no ((Tn.refl No w2).alloc _))); clear hv2)
      | (go_at_call 17; refine HC1.out.mono ?_; rintro e w1 ⟨a1, n1, k1, a2, n2, k2, out1, ros1, rfl, ⟨x0, x1, x2⟩, hv1⟩; have HV1 := hid hv1; clear hv1))
    go_ret
    have hfin := HFIN.out (eqG out1 out2 ros1 ros2) _ _ _ _ _ _ _ _ _ _ _ _ HV1.out HV2.out rfl
    have htn := (((HTB.out.then HV1.out.tn).alloc (.cells #[.slice a1 n1 k1, .slice a2 n2 k2] 27)).then HV2.out.tn).alloc (.cells #[.slice a3 n3 k3, .slice a4 n4 k4] 27)
    exact ⟨_, rfl, htn.then HT3.out, by simpa using hfin⟩
end Go.Proofs.Ytlkbnjdhokjfnaa
