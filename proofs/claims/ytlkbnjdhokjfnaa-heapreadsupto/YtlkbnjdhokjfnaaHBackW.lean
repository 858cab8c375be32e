/-
  heap: HeapBack, walked.
-/
import Derived.Test.YtlkbnjdhokjfnaaREqual
import Derived.Test.YtlkbnjdhokjfnaaHKnown2
namespace Go.Proofs.Ytlkbnjdhokjfnaa
set_option linter.unusedSimpArgs false
set_option linter.unusedVariables false
open Go.RowKit
attribute [local go_sem ↓] Go.wp_at_zero Go.wp_at_succ

theorem sizeR_le (k : Int) (s : ByteArray) (n : Nat) : sizeR k s n ≤ 16 * (s.size + n + 1) := by
  unfold sizeR
  split <;> omega
theorem sizeR_eight (k : Int) (s : ByteArray) (n : Nat) : 8 ≤ sizeR k s n ∧ sizeR k s n % 8 = 0 := by
  unfold sizeR
  omega

/-- the first Canon -/
structure BkA (ts : List Th) (rs : List Rf) (w w1 : World) (tv1 rv1 : Value) (out : List Th) (ros : List Rf) : Prop where
  tn : Tn No w w1
  ga : GA w1 tv1 rv1 out ros
  okt : ∀ t ∈ out, okT t.pl
  okr : ∀ r ∈ ros, okR r
  can : Hp.Canon (Hp.nth (ts.map Th.nd)) (rs.map vOf) (out.map Th.nd) (ros.map vOf)
/-- a graph that is the same -/
structure BkB (w w1 : World) (tv1 rv1 : Value) (out' : List Th) (ros' : List Rf) (out : List Th) (ros : List Rf) : Prop where
  tn : Tn No w w1
  ga : GA w1 tv1 rv1 out' ros'
  okt : ∀ t ∈ out', okT t.pl
  okr : ∀ r ∈ ros', okR r
  e1 : out'.map Th.nd = out.map Th.nd
  e2 : ros'.map vOf = ros.map vOf

def TwoC (b : Nat) (tv rv : Value) (u : World) : Prop := u.cell? ⟨b, 0, none⟩ = some tv ∧ u.cell? ⟨b, 1, none⟩ = some rv ∧ b < u.heap.size
theorem TwoC.no {b : Nat} {tv rv : Value} {u u' : World} (h : TwoC b tv rv u) (t : Tn No u u') : TwoC b tv rv u' := ⟨by rw [t.cell h.2.2 (fun e => e)]; exact h.1, by rw [t.cell h.2.2 (fun e => e)]; exact h.2.1, Nat.lt_of_lt_of_le h.2.2 t.size⟩
theorem twoC_new (w : World) (tv rv : Value) (T : TypeId) : TwoC w.heap.size tv rv (w.alloc (.cells #[tv, rv] T)) := ⟨by rw [World.cell?_alloc_new]; rfl, by rw [World.cell?_alloc_new]; rfl, by simp⟩

/-- what Lay left -/
structure BkL (A : Nat) (ts : List Th) (rs : List Rf) (w w1 : World) (bv rv : Value) (b : List UInt8) (roots : List Nat) (out : List Th) (ros : List Rf) : Prop where
  tn : Tn No w w1
  ld : LD 1 eB w1 bv b
  lr : LD 1 eU w1 rv (Hp.cs roots)
  len : b.length = totR ts
  rl : roots.length = rs.length
  rw : ∀ x ∈ roots, x < 18446744073709551616
  can : Hp.Canon (getN b A) (roots.map Hp.value) (out.map Th.nd) (ros.map vOf)

section
variable {tv rv : Value} {ts : List Th} {rs : List Rf} {w : World}
theorem bk_canon (h : GA w tv rv ts rs) (hm : mayG ts rs = true) : Calls Try.prog 18 #[.agg #[tv, rv]] w fun e w1 => ∃ a1 n1 c1 a2 n2 c2 out ros, e = .returned (.tuple #[.agg #[.slice a1 n1 c1, .slice a2 n2 c2], .int .i64 0]) ∧ BkA ts rs w w1 (.slice a1 n1 c1) (.slice a2 n2 c2) out ros := by
  refine (canon_ok tv rv ts rs w h hm).mono ?_
  rintro e w1 ⟨tv1, rv1, out, ros, he, hmd, hc⟩
  have hga := hmd.go.ga
  obtain ⟨a2, c2, e2, _⟩ := hga.roots
  obtain ⟨a1, c1, e1, _⟩ := hga.things
  subst e1 e2
  exact ⟨_, _, _, _, _, _, out, ros, he, hmd.tn, hga, hmd.okt, hmd.okr, hc⟩

theorem bk_may (hm : mayG ts rs = true) {out : List Th} {ros : List Rf} (okt : ∀ t ∈ out, okT t.pl) (okr : ∀ r ∈ ros, okR r) (hc : Hp.Canon (Hp.nth (ts.map Th.nd)) (rs.map vOf) (out.map Th.nd) (ros.map vOf)) : mayG out ros = true := by
  obtain ⟨ok1, ok2, mb⟩ := may_ok hm
  refine mayG_of okt okr (canon_may hc ?_ ?_ ?_)
  · intro k t hk
    exact mb.may t (List.mem_of_getElem? hk)
  · intro k t hk n hn
    exact mb.refs t (List.mem_of_getElem? hk) _ hn
  · intro n hn
    exact mb.roots _ hn

theorem bk_lay (h : GA w tv rv ts rs) (hm : mayG ts rs = true) (A : Nat) (hA : A % 8 = 0) (hA2 : A < 1099511627776) (htot : totR ts ≤ 16777216) {out : List Th} {ros : List Rf} (hc : Hp.Canon (Hp.nth (ts.map Th.nd)) (rs.map vOf) (out.map Th.nd) (ros.map vOf)) (u : World) (t : Tn No w u) :
    Calls Try.prog 25 #[.agg #[tv, rv], .int .u64 (A : Int)] u fun e w1 => ∃ ab cb ar nr cr b roots, e = .returned (.tuple #[.slice ab (totR ts) cb, .slice ar nr cr, .int .i64 0]) ∧ BkL A ts rs u w1 (.slice ab (totR ts) cb) (.slice ar nr cr) b roots out ros := by
  refine (lay_ok (A : Int) _ _ _ _ u (h.no t) (by omega) (by omega) hm (by simp only [placeB, decide_eq_true_eq]; omega) (by omega)).mono ?_
  rintro e w1 ⟨bv, rv1, he, hl⟩
  obtain ⟨roots, cs, os, hr1, hr2, hc1, hc2⟩ := canon_back hm (fun t ht => ⟨(h.each t ht).bytes, (h.each t ht).len⟩) A hA (by omega)
  obtain ⟨a1, a2⟩ := hc.same hc1
  have hb := hl.bytes.ld
  have hr := hl.roots.ld
  rw [hr1] at hr
  have hr9 := hr
  have hlen := layR_length (placesR (A : Int) ts) ts
  obtain ⟨ab, cb, e1, _⟩ := hb
  obtain ⟨ar, cr, e2, _⟩ := hr
  rw [hlen] at e1
  subst e1 e2
  refine ⟨ab, cb, ar, _, cr, _, roots, he, hl.tn, hl.bytes.ld, hr9, hlen, ?_, hr2, ?_⟩
  · have := congrArg List.length hr1
    simpa [Hp.cs] using this.symm
  · rw [a1, a2]; exact hc2

theorem bk_read {A : Nat} (hA : A % 8 = 0) (hA2 : A < 1099511627776) (htot : totR ts ≤ 16777216) (hrl : rs.length ≤ 1073741824) {w1 : World} {bv rvv : Value} {b : List UInt8} {roots : List Nat} {out : List Th} {ros : List Rf} (hl : BkL A ts rs w w1 bv rvv b roots out ros) :
    Calls Try.prog 27 #[bv, .int .u64 (A : Int), rvv] w1 fun e w2 => ∃ a1 n1 c1 a2 n2 c2 out2 ros2, e = .returned (.tuple #[.agg #[.slice a1 n1 c1, .slice a2 n2 c2], .int .i64 0]) ∧ BkB w1 w2 (.slice a1 n1 c1) (.slice a2 n2 c2) out2 ros2 out ros := by
  have hlen := hl.len
  have hrl' := hl.rl
  refine (Read_raw bv rvv b A roots w1 hl.ld (by omega) (by omega) hl.lr (by omega) hl.rw).mono ?_
  intro e w2 hp
  obtain ⟨tv2, rv2, out2, ros2, he, hmd, e1, e2⟩ := read_of_canon hp (by simp only [placeB, decide_eq_true_eq]; omega) hl.can
  have hga := hmd.go.ga
  obtain ⟨a2, c2, f2, _⟩ := hga.roots
  obtain ⟨a1, c1, f1, _⟩ := hga.things
  subst f1 f2
  exact ⟨_, _, _, _, _, _, out2, ros2, he, hmd.tn, hga, hmd.okt, hmd.okr, e1, e2⟩

theorem bk_again (hm : mayG ts rs = true) {w1 : World} {tv1 rv1 : Value} {out : List Th} {ros : List Rf} (hk : BkA ts rs w w1 tv1 rv1 out ros) (u : World) (t : Tn No w1 u) :
    Calls Try.prog 18 #[.agg #[tv1, rv1]] u fun e w2 => ∃ a1 n1 c1 a2 n2 c2 out2 ros2, e = .returned (.tuple #[.agg #[.slice a1 n1 c1, .slice a2 n2 c2], .int .i64 0]) ∧ BkB u w2 (.slice a1 n1 c1) (.slice a2 n2 c2) out2 ros2 out ros := by
  refine (bk_canon (hk.ga.no t) (bk_may hm hk.okt hk.okr hk.can)).mono ?_
  rintro e w2 ⟨a1, n1, c1, a2, n2, c2, out2, ros2, he, h2⟩
  obtain ⟨e1, e2⟩ := h2.can.same hk.can.again
  exact ⟨a1, n1, c1, a2, n2, c2, out2, ros2, he, h2.tn, h2.ga, h2.okt, h2.okr, e1, e2⟩

theorem bk_equal {w1 u1 u2 : World} {tv1 rv1 tv2 rv2 : Value} {out out2 : List Th} {ros ros2 : List Rf} (hk : BkA ts rs w w1 tv1 rv1 out ros) (hb : BkB u1 u2 tv2 rv2 out2 ros2 out ros) (u : World) (t1 : Tn No w1 u) (t2 : Tn No u2 u) :
    Calls Try.prog 19 #[.agg #[tv2, rv2], .agg #[tv1, rv1]] u fun e w' => e = .returned (.bool true) ∧ Tn No u w' := by
  refine (rEqual_raw _ _ _ _ _ _ _ _ u (hb.ga.no t2) (hk.ga.no t1)).mono ?_
  rintro e w' ⟨he, t⟩
  have : eqG out2 out ros2 ros = true := by
    unfold eqG
    rw [Bool.and_eq_true, decide_eq_true_eq, decide_eq_true_eq]
    exact ⟨(rfs_iff hb.okr hk.okr).2 hb.e2, (nds_iff hb.okt hk.okt).2 hb.e1⟩
  rw [this] at he
  exact ⟨he, t⟩

theorem bk_same (h : GA w tv rv ts rs) (hm : mayG ts rs = true) {w0 w1 u1 u2 : World} {tv1 rv1 tv2 rv2 : Value} {out out2 : List Th} {ros ros2 : List Rf} (hk : BkA ts rs w0 w1 tv1 rv1 out ros) (hb : BkB u1 u2 tv2 rv2 out2 ros2 out ros) (u : World) (t1 : Tn No w u) (t2 : Tn No u2 u) :
    Calls Try.prog 21 #[.agg #[tv, rv], .agg #[tv2, rv2]] u fun e w' => e = .returned (.bool true) ∧ Tn No u w' := by
  refine (same_raw _ _ _ _ _ _ _ _ u (h.no t1) (hb.ga.no t2)).mono ?_
  rintro e w' ⟨q, he, t, hq⟩
  have hm1 := bk_may hm hk.okt hk.okr hk.can
  have hca := hk.can.again
  have hm2 : mayG out2 ros2 = true := by
    refine mayG_of hb.okt hb.okr ?_
    rw [hb.e1, hb.e2]
    exact (may_ok hm1).2.2
  have : q = true := hq.2 ⟨hm, hm2, _, _, hk.can, by rw [hb.e1, hb.e2]; exact hca⟩
  subst this
  exact ⟨he, t⟩
end

set_option maxHeartbeats 8000000 in
set_option maxRecDepth 100000 in
theorem back_bad (tv rv : Value) (ts : List Th) (rs : List Rf) (at_ : Int) (w : World) (h : GA w tv rv ts rs) (hm : mayG ts rs = false) (htot : totR ts ≤ 16777216) (h0 : 0 ≤ at_) (h1 : at_ ≤ 18446744073709551615) :
    Calls Try.prog 7 #[.agg #[tv, rv], .int .u64 at_] w fun e w' => e = .returned (.bool true) ∧ Tn No w w' := by
  have HCN : Hid (Calls Try.prog 18 #[.agg #[tv, rv]] (w.alloc (.cells #[tv, rv] 27)) fun e w1 => e = .returned (.tuple #[.agg #[.slice none 0 0, .slice none 0 0], .int .i64 141]) ∧ TwoC w.heap.size tv rv w1 ∧ Tn No w w1) := hid ((canon_bad tv rv ts rs _ (h.no ((Tn.refl No w).alloc _)) hm).mono (fun e w1 ⟨he, t⟩ => ⟨he, (twoC_new w tv rv _).no t, ((Tn.refl No w).alloc _).then t⟩))
  have HLY : Hid (∀ (A : Int) u u', 0 ≤ A → A ≤ 18446744073709551615 → Tn No w u → TwoC w.heap.size tv rv u → Tn No u u' → Calls Try.prog 25 #[.agg #[tv, rv], .int .u64 A] u' fun e w1 => e = .returned (.tuple #[.slice none 0 0, .slice none 0 0, .int .i64 141]) ∧ TwoC w.heap.size tv rv w1 ∧ Tn No w w1) := hid (fun A u u' a0 a1 t c t' => (lay_bad A tv rv ts rs u' (h.no (t.then t')) a0 a1 (by omega) hm).mono (fun e w1 ⟨he, t9⟩ => ⟨he, (c.no t').no t9, (t.then t').then t9⟩))
  have HCK : Hid (∀ u, Tn No w u → Calls Try.prog 13 #[.agg #[tv, rv]] u fun e w1 => e = .returned (.int .i64 141) ∧ Tn No w w1) := hid (fun u t => (check_raw tv rv ts rs u (h.no t)).mono (fun e w1 ⟨he, t9⟩ => by
    rw [hm] at he
    exact ⟨he, t.then t9⟩))
  have HKN : Hid (∀ u, Calls Try.prog 15 #[] u fun e w' => e = .returned (.bool true) ∧ Tn No u w') := hid known_raw
  obtain ⟨ra, rc, hrv, _⟩ := h.roots
  obtain ⟨ta, tc, htv, _⟩ := h.things
  obtain ⟨m, hmm⟩ : ∃ m, ts.length = m := ⟨_, rfl⟩
  obtain ⟨rn, hrn⟩ : ∃ rn, rs.length = rn := ⟨_, rfl⟩
  rw [hmm] at htv
  rw [hrn] at hrv
  subst hrv htv
  clear h hmm hrn hm htot
  go_enter Try.func7, Try.ntmps7
  go_wp2_with (first
    | (go_at_call 18; refine HCN.out.mono ?_; rintro e w1 ⟨rfl, c1, t1⟩; have HT1 := hid t1; have HC1 := hid c1; obtain ⟨p0, p1, p2⟩ := c1; clear t1)
    | (go_at_call 25; refine (HLY.out _ w1 _ (by omega) (by omega) HT1.out HC1.out (by repeat (first | exact Tn.refl _ _ | apply Tn.drew | apply Tn.drewN | apply Tn.alloc | (refine Tn.then ?_ (by assumption)) | (refine Tn.thenNo ?_ (by assumption))))).mono ?_; rintro e w2 ⟨rfl, ⟨q0, q1, q2⟩, t2⟩; have HT2 := hid t2; clear t2)
    | (go_at_call 13; refine (HCK.out _ HT2.out).mono ?_; rintro e w3 ⟨rfl, t3⟩; have HT3 := hid t3; clear t3)
    | (go_at_call 15; refine (HKN.out _).mono ?_; rintro e w4 ⟨rfl, t4⟩; have HT4 := hid t4; clear t4))
  go_ret
  exact ⟨rfl, HT3.out.then HT4.out⟩

/-- what lies in memory behind the second Canon -/
def BkC (b c6 c11 c13 : Nat) (tv rv tv1 rv1 tv2 rv2 tv3 rv3 : Value) (u : World) : Prop := TwoC b tv rv u ∧ TwoC c6 tv1 rv1 u ∧ TwoC c11 tv2 rv2 u ∧ TwoC c13 tv3 rv3 u
theorem BkC.no {b c6 c11 c13 : Nat} {tv rv tv1 rv1 tv2 rv2 tv3 rv3 : Value} {u u' : World} (h : BkC b c6 c11 c13 tv rv tv1 rv1 tv2 rv2 tv3 rv3 u) (t : Tn No u u') : BkC b c6 c11 c13 tv rv tv1 rv1 tv2 rv2 tv3 rv3 u' := ⟨h.1.no t, h.2.1.no t, h.2.2.1.no t, h.2.2.2.no t⟩

theorem totR_take {ts : List Th} {k : Nat} (hk : k < ts.length) : totR (ts.take (k + 1)) = totR (ts.take k) + ts[k].size := by
  unfold totR
  rw [map_take_succ Th.size hk, List.sum_append]
  simp

set_option maxHeartbeats 16000000 in
set_option maxRecDepth 100000 in
theorem back_good (tv rv : Value) (ts : List Th) (rs : List Rf) (at_ : Int) (w : World) (h : GA w tv rv ts rs) (hm : mayG ts rs = true) (htot : totR ts ≤ 16777216) (h0 : 0 ≤ at_) (h1 : at_ ≤ 18446744073709551615) :
    Calls Try.prog 7 #[.agg #[tv, rv], .int .u64 at_] w fun e w' => e = .returned (.bool true) ∧ Tn No w w' := by
  obtain ⟨A, hA⟩ : ∃ A : Nat, at_ % 1099511627776 / 8 * 8 = (A : Int) := ⟨(at_ % 1099511627776 / 8 * 8).toNat, by omega⟩
  have hA8 : A % 8 = 0 := by omega
  have hA2 : A < 1099511627776 := by omega
  obtain ⟨m1, m2, m3⟩ := may_parts hm
  have hmt : ∀ t ∈ ts, mayT t = true := List.all_eq_true.1 m2
  have HCN : Hid (Calls Try.prog 18 #[.agg #[tv, rv]] (w.alloc (.cells #[tv, rv] 27)) fun e w1 => ∃ a1 n1 c1 a2 n2 c2 out ros, e = .returned (.tuple #[.agg #[.slice a1 n1 c1, .slice a2 n2 c2], .int .i64 0]) ∧ TwoC w.heap.size tv rv w1 ∧ BkA ts rs w w1 (.slice a1 n1 c1) (.slice a2 n2 c2) out ros) := hid ((bk_canon (h.no ((Tn.refl No w).alloc _)) hm).mono (fun e w1 ⟨a1, n1, c1, a2, n2, c2, out, ros, he, hk⟩ => ⟨a1, n1, c1, a2, n2, c2, out, ros, he, (twoC_new w tv rv _).no hk.tn, ((Tn.refl No w).alloc _).then hk.tn, hk.ga, hk.okt, hk.okr, hk.can⟩))
  have HLY : Hid (∀ w1 tv1 rv1 out ros, TwoC w.heap.size tv rv w1 → BkA ts rs w w1 tv1 rv1 out ros → Calls Try.prog 25 #[.agg #[tv, rv], .int .u64 (A : Int)] (w1.alloc (.cells #[tv1, rv1] 27)) fun e w2 => ∃ ab cb ar nr cr b roots, e = .returned (.tuple #[.slice ab (totR ts) cb, .slice ar nr cr, .int .i64 0]) ∧ (TwoC w.heap.size tv rv w2 ∧ TwoC w1.heap.size tv1 rv1 w2) ∧ BkL A ts rs w1 w2 (.slice ab (totR ts) cb) (.slice ar nr cr) b roots out ros) := hid (fun w1 tv1 rv1 out ros c hk => (bk_lay h hm A hA8 hA2 htot hk.can _ (hk.tn.alloc _)).mono (fun e w2 ⟨ab, cb, ar, nr, cr, b, roots, he, hl⟩ => ⟨ab, cb, ar, nr, cr, b, roots, he, ⟨(c.no ((Tn.refl No w1).alloc _)).no hl.tn, (twoC_new w1 tv1 rv1 _).no hl.tn⟩, ((Tn.refl No w1).alloc _).then hl.tn, hl.ld, hl.lr, hl.len, hl.rl, hl.rw, hl.can⟩))
  have HRD : Hid (∀ w1 w2 bv rvv b roots out ros c6 tv1 rv1, BkL A ts rs w1 w2 bv rvv b roots out ros → (TwoC w.heap.size tv rv w2 ∧ TwoC c6 tv1 rv1 w2) → Calls Try.prog 27 #[bv, .int .u64 (A : Int), rvv] w2 fun e w3 => ∃ a1 n1 c1 a2 n2 c2 out2 ros2, e = .returned (.tuple #[.agg #[.slice a1 n1 c1, .slice a2 n2 c2], .int .i64 0]) ∧ (TwoC w.heap.size tv rv w3 ∧ TwoC c6 tv1 rv1 w3) ∧ BkB w2 w3 (.slice a1 n1 c1) (.slice a2 n2 c2) out2 ros2 out ros) := hid (fun w1 w2 bv rvv b roots out ros c6 tv1 rv1 hl ⟨ca, cc⟩ => (bk_read hA8 hA2 htot h.rlen hl).mono (fun e w3 ⟨a1, n1, c1, a2, n2, c2, out2, ros2, he, hb⟩ => ⟨a1, n1, c1, a2, n2, c2, out2, ros2, he, ⟨ca.no hb.tn, cc.no hb.tn⟩, hb⟩))
  have HC2 : Hid (∀ w1 w2 w3 tv1 rv1 out ros tv2 rv2, BkA ts rs w w1 tv1 rv1 out ros → Tn No w1 w2 → Tn No w2 w3 → (TwoC w.heap.size tv rv w3 ∧ TwoC w1.heap.size tv1 rv1 w3) → Calls Try.prog 18 #[.agg #[tv1, rv1]] (w3.alloc (.cells #[tv2, rv2] 27)) fun e w5 => ∃ a1 n1 c1 a2 n2 c2 out2 ros2, e = .returned (.tuple #[.agg #[.slice a1 n1 c1, .slice a2 n2 c2], .int .i64 0]) ∧ (TwoC w.heap.size tv rv w5 ∧ TwoC w1.heap.size tv1 rv1 w5 ∧ TwoC w3.heap.size tv2 rv2 w5) ∧ Tn No w3 w5 ∧ BkB (w3.alloc (.cells #[tv2, rv2] 27)) w5 (.slice a1 n1 c1) (.slice a2 n2 c2) out2 ros2 out ros) := hid (fun w1 w2 w3 tv1 rv1 out ros tv2 rv2 hk t12 t23 ⟨ca, cc⟩ => (bk_again hm hk _ ((t12.then t23).alloc _)).mono (fun e w5 ⟨a1, n1, c1, a2, n2, c2, out2, ros2, he, hb⟩ => ⟨a1, n1, c1, a2, n2, c2, out2, ros2, he, ⟨(ca.no ((Tn.refl No w3).alloc _)).no hb.tn, (cc.no ((Tn.refl No w3).alloc _)).no hb.tn, (twoC_new w3 tv2 rv2 _).no hb.tn⟩, ((Tn.refl No w3).alloc _).then hb.tn, hb⟩))
  have HSZ : Hid (∀ t ∈ ts, ∀ u, Calls Try.prog 9 #[t.val] u fun e w' => e = .returned (.int .i64 (t.size : Int)) ∧ Tn No u w') := hid (fun t ht u => by
    obtain ⟨a, c, e⟩ := (h.each t ht).form
    have := Size_raw t.kind t.tag t.bytes a t.refs.length c u (h.each t ht).bytes (h.each t ht).len
    have hmr : mayR t.kind t.tag t.bytes t.refs.length = true := hmt t ht
    rw [hmr] at this
    unfold Th.val
    rw [e]
    exact this)
  have HFM : Hid (∀ t ∈ ts, ∃ a c, t.rv = .slice a t.refs.length c) := hid (fun t ht => (h.each t ht).form)
  have HSA : Hid (∀ w0 w1 u1 u2 tv1 rv1 tv2 rv2 out out2 ros ros2, BkA ts rs w0 w1 tv1 rv1 out ros → BkB u1 u2 tv2 rv2 out2 ros2 out ros → ∀ u, Tn No w u → Tn No u2 u → Calls Try.prog 21 #[.agg #[tv, rv], .agg #[tv2, rv2]] u fun e w' => e = .returned (.bool true) ∧ Tn No u w') := hid (fun w0 w1 u1 u2 tv1 rv1 tv2 rv2 out out2 ros ros2 hk hb u t1 t2 => bk_same h hm hk hb u t1 t2)
  have HKN : Hid (∀ u, Calls Try.prog 15 #[] u fun e w' => e = .returned (.bool true) ∧ Tn No u w') := hid known_raw
  obtain ⟨ra, rc, hrv, _⟩ := h.roots
  obtain ⟨ta, tc, htv, hct, hcm, hat⟩ := h.things
  have htl := h.tlen
  have HAT := hid hat
  obtain ⟨m, hmm⟩ : ∃ m, ts.length = m := ⟨_, rfl⟩
  obtain ⟨rn, hrn⟩ : ∃ rn, rs.length = rn := ⟨_, rfl⟩
  have HM := hid hmm
  rw [hmm] at htv htl hct
  rw [hrn] at hrv
  subst hrv htv
  obtain ⟨tot, htt⟩ : ∃ tot, totR ts = tot := ⟨_, rfl⟩
  have HTT := hid htt
  rw [htt] at HLY htot
  clear h hmm hrn hm m1 m2 m3 hmt hat htt
  go_enter Try.func7, Try.ntmps7
  go_wp2_with (first
    | (go_at_call 25; refine (HLY.out w1 _ _ out ros HC1.out HK1.out).mono ?_; rintro e w2 ⟨ab, cb, ar, nr, cr, bb, roots, rfl, c2, hl2⟩; have HL2 := hid hl2; have HC2' := hid c2; obtain ⟨⟨q0, q1, q2⟩, q3, q4, q5⟩ := c2; clear hl2)
    | (go_at_call 27; refine (HRD.out w1 w2 _ _ bb roots out ros _ _ _ HL2.out HC2'.out).mono ?_; rintro e w3 ⟨a3, n3, c3, a4, n4, c4, out2, ros2, rfl, c9, hb3⟩; have HB3 := hid hb3; have HC3 := hid c9; obtain ⟨⟨r0, r1, r2⟩, r3, r4, r5⟩ := c9; clear hb3)
    | (go_at_call 18; refine (HC2.out w1 w2 w3 _ _ out ros _ _ HK1.out HL2.out.tn HB3.out.tn HC3.out).mono ?_; rintro e w5 ⟨a5, n5, c5, a6, n6, c6, out3, ros3, rfl, c9, t35, hb5⟩; have HB5 := hid hb5; have HT35 := hid t35; have HC5 := hid c9; obtain ⟨⟨s0, s1, s2⟩, ⟨s3, s4, s5⟩, s6, s7, s8⟩ := c9; clear hb5 t35)
    | (go_at_call 18; refine HCN.out.mono ?_; rintro e w1 ⟨a1, n1, c1, a2, n2, c2, out, ros, rfl, cc1, k1⟩; have HK1 := hid k1; have HC1 := hid cc1; obtain ⟨p0, p1, p2⟩ := cc1; clear k1))
  have HCC : Hid (BkC w.heap.size w1.heap.size w3.heap.size w5.heap.size (.slice ta m tc) (.slice ra rn rc) (.slice a1 n1 c1) (.slice a2 n2 c2) (.slice a3 n3 c3) (.slice a4 n4 c4) (.slice a5 n5 c5) (.slice a6 n6 c6) (w5.alloc (.cells #[.slice a5 n5 c5, .slice a6 n6 c6] 27))) := hid (by
    have t := (Tn.refl No w5).alloc (.cells #[.slice a5 n5 c5, .slice a6 n6 c6] 27)
    exact ⟨HC5.out.1.no t, HC5.out.2.1.no t, HC5.out.2.2.no t, twoC_new w5 _ _ _⟩)
  have HT5 : Hid (Tn No w w5) := hid (((HK1.out.tn.then HL2.out.tn).then HB3.out.tn).then HT35.out)
  have HEQ2 : Hid (∀ u, Tn No w5 u → Calls Try.prog 19 #[.agg #[.slice a3 n3 c3, .slice a4 n4 c4], .agg #[.slice a1 n1 c1, .slice a2 n2 c2]] u fun e w' => e = .returned (.bool true) ∧ Tn No u w') := hid (fun u t => bk_equal HK1.out HB3.out u (((HL2.out.tn.then HB3.out.tn).then HT35.out).then t) (HT35.out.then t))
  have HEQ3 : Hid (∀ u, Tn No w5 u → Calls Try.prog 19 #[.agg #[.slice a5 n5 c5, .slice a6 n6 c6], .agg #[.slice a1 n1 c1, .slice a2 n2 c2]] u fun e w' => e = .returned (.bool true) ∧ Tn No u w') := hid (fun u t => bk_equal HK1.out HB5.out u (((HL2.out.tn.then HB3.out.tn).then HT35.out).then t) t)
  have HSAM : Hid (∀ u, Tn No w5 u → Calls Try.prog 21 #[.agg #[.slice ta m tc, .slice ra rn rc], .agg #[.slice a3 n3 c3, .slice a4 n4 c4]] u fun e w' => e = .returned (.bool true) ∧ Tn No u w') := hid (fun u t => HSA.out _ _ _ _ _ _ _ _ _ _ _ _ HK1.out HB3.out u (HT5.out.then t) (HT35.out.then t))
  clear HCN HLY HRD HC2 HSA HK1 HC1 HL2 HC2' HB3 HC3 HB5 HT35 HC5 p0 p1 p2 q0 q1 q2 q3 q4 q5 r0 r1 r2 r3 r4 r5 s0 s1 s2 s3 s4 s5 s6 s7 s8
  go_loopw [15, 16] (fun n i wr => ∃ k : Nat, k ≤ m ∧ n = .int .i64 (totR (ts.take k) : Int) ∧ i = .int .i64 (k : Int) ∧ BkC w.heap.size w1.heap.size w3.heap.size w5.heap.size (.slice ta m tc) (.slice ra rn rc) (.slice a1 n1 c1) (.slice a2 n2 c2) (.slice a3 n3 c3) (.slice a4 n4 c4) (.slice a5 n5 c5) (.slice a6 n6 c6) wr ∧ Tn No w5 wr) (fun _ i _ => m - (intOf i).toNat)
  case atStart => exact ⟨0, by omega, rfl, rfl, HCC.out, (Tn.refl No w5).alloc _⟩
  case round =>
    obtain ⟨k, hk, rfl, rfl, hcc, ht⟩ := hrel
    clear HCC
    have HCC := hid hcc
    have HTR := hid ht
    obtain ⟨⟨p0, p1, p2⟩, ⟨p3, p4, p5⟩, ⟨p6, p7, p8⟩, ⟨p9, p10, p11⟩⟩ := hcc
    by_cases hlt : k < m
    · have hkl : k < ts.length := by have := HM.out; omega
      obtain ⟨g, o, rfl, hg, hcell⟩ := HAT.out (by omega)
      obtain ⟨q0, q1, q2, q3⟩ := thing_cells hcell k hkl
      have hwr := HT5.out.then ht
      rw [← hwr.cell hg (fun e => e)] at q0 q1 q2 q3
      obtain ⟨xa, xc, hx⟩ := HFM.out _ (List.getElem_mem hkl)
      have hsz := HSZ.out _ (List.getElem_mem hkl)
      have htk := totR_take hkl
      have hle := totR_le (ts := ts) (k + 1)
      rw [HTT.out] at hle
      have h8 := sizeR_eight ts[k].kind ts[k].bytes ts[k].refs.length
      have h9 : ts[k].size = sizeR ts[k].kind ts[k].bytes ts[k].refs.length := rfl
      rw [← h9] at h8
      unfold Th.val at hsz
      rw [hx] at q3 hsz
      obtain ⟨S, hS⟩ : ∃ S, ts[k].size = S := ⟨_, rfl⟩
      rw [hS] at hsz htk h8
      have HTK := hid htk
      obtain ⟨B, hB⟩ : ∃ B, totR (ts.take k) = B := ⟨_, rfl⟩
      rw [hB] at HTK htk
      rw [hB]
      obtain ⟨t, htt⟩ : ∃ t, ts[k] = t := ⟨_, rfl⟩
      rw [htt] at q0 q1 q2 q3 hsz
      obtain ⟨kind, tag, bytes, rv', refs⟩ := t
      dsimp only at q0 q1 q2 q3 hsz
      generalize refs.length = rm at *
      have HSZ' := hid (hsz wr)
      have hki : (k : Int) < (m : Int) := by omega
      have hS1 : (8 : Int) ≤ (S : Int) := by omega
      have hS2 : ((S : Int) % 8 != 0) = false := by simp; omega
      have hS3 : (S : Int) ≤ 16777216 := by omega
      have hB3 : (B : Int) ≤ 16777216 := by omega
      clear hcell hx htt hkl hwr ht hsz htk hle h8 h9 hS hB HAT HFM HSZ
      go_wp2_with (go_at_call 9; refine HSZ'.out.mono ?_; rintro e w9 ⟨rfl, t9⟩; have HT9 := hid t9; clear t9)
      go_roundw
      case rel => exact ⟨k + 1, by omega, by rw [HTK.out]; go_num, by go_num, HCC.out.no HT9.out, HTR.out.then HT9.out⟩
      case measure => simp [intOf]; omega
    · obtain rfl : k = m := by omega
      have htk : totR (ts.take k) = tot := by rw [List.take_of_length_le (by have := HM.out; omega)]; exact HTT.out
      rw [htk]
      clear htk ht HAT HFM HSZ
      go_wp2_with (first
        | (go_at_call 15; refine (HKN.out _).mono ?_; rintro e w14 ⟨rfl, t14⟩; have HT14 := hid t14; clear t14)
        | (go_at_call 21; refine (HSAM.out _ HT12.out).mono ?_; rintro e w13 ⟨rfl, t13⟩; have HT13 := hid (HT12.out.then t13); clear t13)
        | (go_at_call 19; refine (HEQ3.out _ HT11.out).mono ?_; rintro e w12 ⟨rfl, t12⟩; have HT12 := hid (HT11.out.then t12); have hc9 := HC11.out.no t12; obtain ⟨⟨x0, x1, x2⟩, ⟨x3, x4, x5⟩, ⟨x6, x7, x8⟩, ⟨x9, x10, x11⟩⟩ := hc9; clear t12)
        | (go_at_call 19; refine (HEQ2.out _ HTR.out).mono ?_; rintro e w11 ⟨rfl, t11⟩; have HT11 := hid (HTR.out.then t11); have hc9 := HCC.out.no t11; have HC11 := hid hc9; obtain ⟨⟨x0, x1, x2⟩, ⟨x3, x4, x5⟩, ⟨x6, x7, x8⟩, ⟨x9, x10, x11⟩⟩ := hc9; clear t11))
      go_ret
      exact ⟨rfl, (HT5.out.then HT13.out).then HT14.out⟩

theorem back_walk (tv rv : Value) (ts : List Th) (rs : List Rf) (at_ : Int) (w : World) (h : GA w tv rv ts rs) (htot : totR ts ≤ 16777216) (h0 : 0 ≤ at_) (h1 : at_ ≤ 18446744073709551615) :
    Calls Try.prog 7 #[.agg #[tv, rv], .int .u64 at_] w fun e w' => e = .returned (.bool true) ∧ Tn No w w' := by
  cases hm : mayG ts rs with
  | false => exact back_bad tv rv ts rs at_ w h hm htot h0 h1
  | true => exact back_good tv rv ts rs at_ w h hm htot h0 h1
theorem tot_wt {ts : List Th} {wt : Th → Nat} (hw : ∀ t, wt t = t.bytes.size + t.refs.length + 1) : totR ts ≤ 16 * (ts.map wt).sum := by
  unfold totR
  induction ts with
  | nil => simp
  | cons t r ih =>
    have h1 := sizeR_le t.kind t.bytes t.refs.length
    have h2 : t.size = sizeR t.kind t.bytes t.refs.length := rfl
    simp only [List.map_cons, List.sum_cons, hw]
    omega
end Go.Proofs.Ytlkbnjdhokjfnaa
