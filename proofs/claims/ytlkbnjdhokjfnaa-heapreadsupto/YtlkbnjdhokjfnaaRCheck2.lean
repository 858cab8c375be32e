/-
  heap's reference: Check.
-/
import Derived.Test.YtlkbnjdhokjfnaaRCheck
namespace Go.Proofs.Ytlkbnjdhokjfnaa
set_option linter.unusedSimpArgs false
set_option linter.unusedVariables false
open Go.RowKit
attribute [local go_sem ↓] Go.wp_at_zero Go.wp_at_succ

set_option maxHeartbeats 8000000 in
set_option maxRecDepth 100000 in
theorem rCheck_raw (tv rv : Value) (ts : List Th) (rs : List Rf) (w : World) (h : GA w tv rv ts rs) :
    Calls Try.prog 14 #[.agg #[tv, rv]] w fun e w' => e = .returned (.int .i64 (cond (mayG ts rs) 0 141)) ∧ Tn No w w' := by
  obtain ⟨m, hm⟩ : ∃ m, ts.length = m := ⟨_, rfl⟩
  have htl := h.tlen
  rw [hm] at htl
  obtain ⟨ra, rc, hrv, hrr⟩ := h.roots
  clear hrr
  obtain ⟨a, c, htv, hc, hcm, hat⟩ := h.things
  rw [hm] at htv
  obtain ⟨rn, hrn⟩ : ∃ rn, rs.length = rn := ⟨_, rfl⟩
  rw [hrn] at hrv
  obtain ⟨W1, hW1⟩ : ∃ W1, w.alloc (.cells #[tv, rv] 27) = W1 := ⟨_, rfl⟩
  have t1 : Tn No w W1 := by rw [← hW1]; exact (Tn.refl No w).alloc _
  have z1 : w.heap.size < W1.heap.size := by rw [← hW1]; simp
  have b0 : W1.cell? ⟨w.heap.size, 0, none⟩ = some tv := by rw [← hW1, World.cell?_alloc_new]; rfl
  have b1 : W1.cell? ⟨w.heap.size, 1, none⟩ = some rv := by rw [← hW1, World.cell?_alloc_new]; rfl
  have HB : Hid (∀ u, Tn No W1 u → u.cell? ⟨w.heap.size, 0, none⟩ = some tv ∧ u.cell? ⟨w.heap.size, 1, none⟩ = some rv ∧ w.heap.size < u.heap.size) := hid (fun u t => ⟨by rw [t.cell z1 (fun e => e), b0], by rw [t.cell z1 (fun e => e), b1], Nat.lt_of_lt_of_le z1 t.size⟩)
  have HV : Hid (Calls Try.prog 36 #[rv, .int .i64 (m : Int)] W1 fun e w' => e = .returned (.bool (rs.all (fitsR m))) ∧ (w'.cell? ⟨w.heap.size, 0, none⟩ = some tv ∧ w'.cell? ⟨w.heap.size, 1, none⟩ = some rv ∧ w.heap.size < w'.heap.size) ∧ Tn No W1 w') := hid ((rall_raw rv rs m W1 (h.roots.no t1) h.rlen htl).mono (fun e w' ⟨he, t⟩ => ⟨he, HB.out _ t, t⟩))
  have HW : Hid (∀ t ∈ ts, ∀ u u', Tn No W1 u → Tn No u u' → Calls Try.prog 36 #[t.rv, .int .i64 (m : Int)] u' fun e w' => e = .returned (.bool (t.refs.all (fitsR m))) ∧ Tn No u w') :=
    hid (fun t ht u u' tn tn' => (rall_raw _ _ m u' ((h.each t ht).no (t1.then (tn.then tn'))).refs (h.each t ht).len htl).mono (fun e w' ⟨he, t9⟩ => ⟨he, tn'.then t9⟩))
  have HTB : Hid (∀ t ∈ ts, ∀ u, Calls Try.prog 31 #[t.val] u fun e w' => e = .returned (.bool (mayT t)) ∧ Tn No u w') := hid (fun t ht u => rmb_t (h.each t ht) u)
  have HF : Hid (∀ t ∈ ts, ∃ a c, t.rv = .slice a t.refs.length c) := hid (fun t ht => (h.each t ht).form)
  have HAT := hid hat
  have HTW := hid t1
  have HE : Hid (mayG ts rs = (rs.all (fitsR m) && ts.all (mayTh m))) := hid (by rw [mayG, hm])
  have HM := hid hm
  rw [HE.out]
  obtain ⟨bo, hbo⟩ : ∃ bo, rs.all (fitsR m) = bo := ⟨_, rfl⟩
  rw [hbo] at HV ⊢
  subst hrv htv
  clear h hat hm HE hbo b0 b1 t1 hrn
  subst hW1
  go_enter Try.func14, Try.ntmps14
  go_wp2_with (go_at_call 36; refine HV.out.mono ?_; rintro e w2 ⟨rfl, ⟨q0, q1, q2⟩, t2⟩; have HT2 := hid t2; clear t2)
  go_loopw [3, 4] (fun f i wr => ∃ k : Nat, k ≤ m ∧ f = .bool (bo && (ts.take k).all (mayTh m)) ∧ i = .int .i64 (k : Int) ∧ Tn No (w.alloc (.cells #[.slice a m c, .slice ra rn rc] 27)) wr) (fun _ i _ => m - (intOf i).toNat)
  case atStart => exact ⟨0, by omega, by simp, rfl, HT2.out⟩
  case round =>
    obtain ⟨k, hk, rfl, rfl, ht⟩ := hrel
    clear HV HT2 q0 q1 q2
    obtain ⟨p0, p1, p2⟩ := HB.out wr ht
    obtain ⟨f, hf⟩ : ∃ f, (bo && (ts.take k).all (mayTh m)) = f := ⟨_, rfl⟩
    rw [hf]
    by_cases hlt : k < m
    · have hkl : k < ts.length := by have := HM.out; omega
      have hki : (k : Int) < (m : Int) := by omega
      cases f
      · have HFA : Hid ((bo && ts.all (mayTh m)) = false) := hid (by
          rw [← List.take_append_drop k ts, List.all_append, ← Bool.and_assoc, hf]; rfl)
        have HTT := hid (HTW.out.then ht)
        clear hf ht
        go_wp2
        go_ret
        exact ⟨by rw [HFA.out]; rfl, HTT.out⟩
      · obtain ⟨g, o, rfl, hg, hcell⟩ := HAT.out (by omega)
        obtain ⟨q0, q1, q2, q3⟩ := thing_cells hcell k hkl
        have hmem : ts[k] ∈ ts := List.getElem_mem hkl
        obtain ⟨xa, xc, hx⟩ := HF.out _ hmem
        have hc1 := HTB.out _ hmem
        have hc2 := HW.out _ hmem
        have hwr := HTW.out.then ht
        rw [← hwr.cell hg (fun e => e)] at q0 q1 q2 q3
        have hgr : g < wr.heap.size := Nat.lt_of_lt_of_le hg hwr.size
        unfold Th.val at hc1
        rw [hx] at q3 hc1 hc2
        have HNX : Hid (∀ x y, mayT ts[k] = x → ts[k].refs.all (fitsR m) = y → (x && y) = (bo && (ts.take (k + 1)).all (mayTh m))) := hid (fun x y ex ey => by
          rw [List.take_add_one, List.getElem?_eq_getElem hkl, List.all_append, ← Bool.and_assoc, hf]
          simp [mayTh, ex, ey])
        obtain ⟨th, hth⟩ : ∃ th, ts[k] = th := ⟨_, rfl⟩
        rw [hth] at q0 q1 q2 q3 hc1 hc2 HNX
        obtain ⟨y1, hy1⟩ : ∃ b, mayT th = b := ⟨_, rfl⟩
        obtain ⟨y2, hy2⟩ : ∃ b, th.refs.all (fitsR m) = b := ⟨_, rfl⟩
        have HNY := hid (HNX.out y1 y2 hy1 hy2)
        rw [hy1] at hc1
        rw [hy2] at hc2
        clear hcell hx hmem hth hkl HNX hf hy1 hy2
        obtain ⟨kind, tag, bytes, rv', refs⟩ := th
        simp only at q0 q1 q2 q3 hc1 hc2
        generalize refs.length = rm at *
        have HC1 : Hid (Calls Try.prog 31 #[.agg #[.int .i64 kind, .int .i64 tag, .string bytes, .slice xa rm xc]] wr fun e w' => e = .returned (.bool y1) ∧ (w'.cell? ⟨w.heap.size, 0, none⟩ = some (.slice (some ⟨g, o, none⟩) m c) ∧ w'.cell? ⟨g, o + k * 4 + 3, none⟩ = some (.slice xa rm xc) ∧ w.heap.size < w'.heap.size ∧ g < w'.heap.size) ∧ Tn No (w.alloc (.cells #[.slice (some ⟨g, o, none⟩) m c, .slice ra rn rc] 27)) w') := hid ((hc1 wr).mono (fun e w' ⟨he, t⟩ => ⟨he, ⟨(HB.out _ (ht.then t)).1, by rw [t.cell hgr (fun e => e)]; exact q3, (HB.out _ (ht.then t)).2.2, Nat.lt_of_lt_of_le hgr t.size⟩, ht.then t⟩))
        have HC2 : Hid (∀ u u', Tn No (w.alloc (.cells #[.slice (some ⟨g, o, none⟩) m c, .slice ra rn rc] 27)) u → (u.cell? ⟨g, o + k * 4 + 3, none⟩ = some (.slice xa rm xc) ∧ g < u.heap.size) → Tn No u u' → Calls Try.prog 36 #[.slice xa rm xc, .int .i64 (m : Int)] u' fun e w' => e = .returned (.bool y2) ∧ (w'.cell? ⟨w.heap.size, 0, none⟩ = some (.slice (some ⟨g, o, none⟩) m c) ∧ w'.cell? ⟨g, o + k * 4 + 3, none⟩ = some (.slice xa rm xc) ∧ w.heap.size < w'.heap.size ∧ g < w'.heap.size) ∧ Tn No (w.alloc (.cells #[.slice (some ⟨g, o, none⟩) m c, .slice ra rn rc] 27)) w') := hid (fun u u' t ⟨c9, g9⟩ t' => (hc2 u u' t t').mono (fun e w' ⟨he, t9⟩ => ⟨he, ⟨(HB.out _ (t.then t9)).1, by rw [t9.cell g9 (fun e => e)]; exact c9, (HB.out _ (t.then t9)).2.2, Nat.lt_of_lt_of_le g9 t9.size⟩, t.then t9⟩))
        clear hc1 hc2 HAT HF HTB HW hwr ht HB
        go_wp2_with (first
          | (go_at_call 31; refine HC1.out.mono ?_; rintro e w3 ⟨rfl, ⟨y0', y1', y2', y3'⟩, t3⟩; have HT3 := hid t3; have HG3 := hid (And.intro y1' y3'); clear t3))
        go_region_held3 (fun w' => w'.cell? ⟨w.heap.size, 0, none⟩ = some (.slice (some ⟨g, o, none⟩) m c) ∧ w'.cell? ⟨g, o + k * 4 + 3, none⟩ = some (.slice xa rm xc) ∧ w.heap.size < w'.heap.size ∧ g < w'.heap.size) (go_keep) (first
          | (go_at_call 36; refine (HC2.out w3 _ HT3.out HG3.out (by repeat (first | exact Tn.refl _ _ | apply Tn.drew | apply Tn.drewN | apply Tn.alloc | (refine Tn.then ?_ (by assumption)) | (refine Tn.thenNo ?_ (by assumption))))).mono ?_; rintro e w4 ⟨rfl, ⟨z0, z1', z2, z3⟩, t4⟩; have HT4 := hid t4; clear t4))
        cases y1
        all_goals
          go_wp2
          go_roundw
          case rel => exact ⟨k + 1, by omega, by rw [← HNY.out]; rfl, by go_num, HT4.out⟩
          case measure => simp [intOf]; omega
    · obtain rfl : k = m := by omega
      have HTT := hid (HTW.out.then ht)
      have HFA : Hid ((bo && ts.all (mayTh k)) = f) := hid (by
        rw [← hf, List.take_of_length_le (by have := HM.out; omega)])
      clear hf ht
      cases f
      all_goals
        go_wp2
        go_ret
        exact ⟨by rw [HFA.out]; rfl, HTT.out⟩
end Go.Proofs.Ytlkbnjdhokjfnaa
