/-
  heap: Lay.
-/
import Derived.Test.YtlkbnjdhokjfnaaHLaid
namespace Go.Proofs.Ytlkbnjdhokjfnaa
set_option linter.unusedSimpArgs false
set_option linter.unusedVariables false
open Go.RowKit
attribute [local go_sem ↓] Go.wp_at_zero Go.wp_at_succ

/-- what Lay answers -/
def layErr (at_ : Int) (ts : List Th) (rs : List Rf) : Int := if mayG ts rs = false then 141 else if placeB at_ (totR ts : Int) = true ∧ totR ts ≤ 2147483647 then 0 else 1
/-- what Lay leaves, where it lays -/
structure LayV (w : World) (at_ : Int) (ts : List Th) (rs : List Rf) (bv rv : Value) (w' : World) : Prop where
  bytes : LR 1 eB w' bv (layR (placesR at_ ts) ts)
  roots : LR 1 eU w' rv (rs.map (wordR (placesR at_ ts)))
  tn : Tn No w w'
  ownb : ∀ g, bv.ownBlock = some g → w.heap.size ≤ g
  ownr : ∀ g, rv.ownBlock = some g → w.heap.size ≤ g
theorem fits_lt {n : Nat} {l : List Rf} (h : l.all (fitsR n) = true) : ∀ r ∈ l, r.1 = 2 → 0 ≤ r.2 ∧ r.2 < (n : Int) := by
  intro r hr e
  have := List.all_eq_true.1 h r hr
  simp only [fitsR, decide_eq_true_eq] at this
  omega
theorem may_parts {ts : List Th} {rs : List Rf} (h : mayG ts rs = true) : rs.all (fitsR ts.length) = true ∧ ts.all mayT = true ∧ ∀ t ∈ ts, t.refs.all (fitsR ts.length) = true := by
  simp only [mayG, Bool.and_eq_true] at h
  refine ⟨h.1, ?_, fun t ht => ?_⟩
  · rw [List.all_eq_true]
    intro t ht
    have := List.all_eq_true.1 h.2 t ht
    simp only [mayTh, Bool.and_eq_true] at this
    exact this.1
  · have := List.all_eq_true.1 h.2 t ht
    simp only [mayTh, Bool.and_eq_true] at this
    exact this.2
theorem places_pos (at_ : Int) (ts : List Th) : ∀ p ∈ placesR at_ ts, 0 ≤ p := by
  intro p hp
  simp only [placesR, List.mem_map] at hp
  obtain ⟨i, _, rfl⟩ := hp
  simp [IntKind.wrap, IntKind.bits, IntKind.signed]
  omega

section
variable (at_ : Int) (tv rv : Value) (ts : List Th) (rs : List Rf) (w : World)
set_option maxHeartbeats 8000000 in
set_option maxRecDepth 100000 in
theorem lay_bad (h : GA w tv rv ts rs) (hat : 0 ≤ at_) (hat2 : at_ ≤ 18446744073709551615) (htot : totR ts ≤ 1099511627776) (hm : mayG ts rs = false) :
    Calls Try.prog 25 #[.agg #[tv, rv], .int .u64 at_] w fun e w' => e = .returned (.tuple #[.slice none 0 0, .slice none 0 0, .int .i64 141]) ∧ Tn No w w' := by
  obtain ⟨W1, hW1⟩ : ∃ W1, w.alloc (.cells #[tv, rv] 27) = W1 := ⟨_, rfl⟩
  have t1 : Tn No w W1 := by rw [← hW1]; exact (Tn.refl No w).alloc _
  have z1 : w.heap.size < W1.heap.size := by rw [← hW1]; simp
  have b0 : W1.cell? ⟨w.heap.size, 0, none⟩ = some tv := by rw [← hW1, World.cell?_alloc_new]; rfl
  have b1 : W1.cell? ⟨w.heap.size, 1, none⟩ = some rv := by rw [← hW1, World.cell?_alloc_new]; rfl
  have h1 := h.no t1
  have HB : Hid (∀ u, Tn No W1 u → u.cell? ⟨w.heap.size, 0, none⟩ = some tv ∧ u.cell? ⟨w.heap.size, 1, none⟩ = some rv ∧ w.heap.size < u.heap.size) := hid (fun u t => ⟨by rw [t.cell z1 (fun e => e), b0], by rw [t.cell z1 (fun e => e), b1], Nat.lt_of_lt_of_le z1 t.size⟩)
  have HM := hid (mayBe_raw tv rv ts rs W1 h1)
  have HTN : Hid (∀ u, Tn No W1 u → Tn No w u) := hid (fun u t => t1.then t)
  obtain ⟨ra, rc, hrv, hrr⟩ := h.roots
  obtain ⟨a, c, htv, hat'⟩ := h.things
  have HPF : Hid (∀ u, Tn No W1 u → Calls Try.prog 45 #[.int .u64 at_, tv] u fun e w' => ∃ v, e = .returned (.tuple #[v, .int .u64 (totR ts : Int)]) ∧ Mk 1 eU u v (placesR at_ ts) w') := hid (fun u t => places_raw at_ tv ts u (h1.no t).tl hat hat2 htot)
  have HPL := hid (fun u => place_raw at_ (totR ts : Int) u hat (by omega))
  rw [hm] at HM
  subst hrv htv
  clear h h1 hrr hat' HPF hm t1
  subst hW1
  clear b0 b1 HPL
  go_enter Try.func25, Try.ntmps25
  go_wp2_with (go_at_call 35; refine HM.out.mono ?_; rintro e w2 ⟨rfl, t2⟩; have HT2 := hid t2; clear t2)
  go_ret3
  exact ⟨rfl, HTN.out _ HT2.out⟩

set_option maxHeartbeats 8000000 in
set_option maxRecDepth 100000 in
theorem lay_place (h : GA w tv rv ts rs) (hat : 0 ≤ at_) (hat2 : at_ ≤ 18446744073709551615) (htot : totR ts ≤ 1099511627776) (hm : mayG ts rs = true) (hp : ¬ (placeB at_ (totR ts : Int) = true ∧ totR ts ≤ 2147483647)) :
    Calls Try.prog 25 #[.agg #[tv, rv], .int .u64 at_] w fun e w' => e = .returned (.tuple #[.slice none 0 0, .slice none 0 0, .int .i64 1]) ∧ Tn No w w' := by
  obtain ⟨W1, hW1⟩ : ∃ W1, w.alloc (.cells #[tv, rv] 27) = W1 := ⟨_, rfl⟩
  have t1 : Tn No w W1 := by rw [← hW1]; exact (Tn.refl No w).alloc _
  have z1 : w.heap.size < W1.heap.size := by rw [← hW1]; simp
  have b0 : W1.cell? ⟨w.heap.size, 0, none⟩ = some tv := by rw [← hW1, World.cell?_alloc_new]; rfl
  have b1 : W1.cell? ⟨w.heap.size, 1, none⟩ = some rv := by rw [← hW1, World.cell?_alloc_new]; rfl
  have h1 := h.no t1
  have HB : Hid (∀ u, Tn No W1 u → u.cell? ⟨w.heap.size, 0, none⟩ = some tv ∧ u.cell? ⟨w.heap.size, 1, none⟩ = some rv ∧ w.heap.size < u.heap.size) := hid (fun u t => ⟨by rw [t.cell z1 (fun e => e), b0], by rw [t.cell z1 (fun e => e), b1], Nat.lt_of_lt_of_le z1 t.size⟩)
  have HM := hid (mayBe_raw tv rv ts rs W1 h1)
  have HTN : Hid (∀ u, Tn No W1 u → Tn No w u) := hid (fun u t => t1.then t)
  obtain ⟨ra, rc, hrv, hrr⟩ := h.roots
  obtain ⟨a, c, htv, hat'⟩ := h.things
  have HPF : Hid (∀ u, Tn No W1 u → Calls Try.prog 45 #[.int .u64 at_, tv] u fun e w' => ∃ v, e = .returned (.tuple #[v, .int .u64 (totR ts : Int)]) ∧ Mk 1 eU u v (placesR at_ ts) w') := hid (fun u t => places_raw at_ tv ts u (h1.no t).tl hat hat2 htot)
  have HPL := hid (fun u => place_raw at_ (totR ts : Int) u hat (by omega))
  rw [hm] at HM
  cases hp1 : placeB at_ (totR ts : Int) with
  | false =>
    rw [hp1] at HPL
    subst hrv htv
    clear h h1 hrr hat' hm t1 hp hp1
    subst hW1
    clear b0 b1
    go_enter Try.func25, Try.ntmps25
    go_wp2_with (first
        | (go_at_call 35; refine HM.out.mono ?_; rintro e w2 ⟨rfl, t2⟩; obtain ⟨q0, q1, q2⟩ := HB.out _ t2; have HPF2 := hid (HPF.out _ t2); have HT2 := hid t2; clear t2)
        | (go_at_call 45; refine HPF2.out.mono ?_; rintro e w3 ⟨v3, rfl, mk3⟩; have t3 := HT2.out.then mk3.tn; obtain ⟨r0, r1, r2⟩ := HB.out _ t3; have HL3 := hid mk3.lr; have HT3 := hid t3; clear mk3 t3)
        | (go_at_call 46; refine (HPL.out _).mono ?_; rintro e w' ⟨rfl, rfl⟩))
    go_ret3
    exact ⟨rfl, HTN.out _ HT3.out⟩
  | true =>
    rw [hp1] at HPL
    have hp2 : (2147483647 : Int) < (totR ts : Int) := by
      rcases Nat.lt_or_ge 2147483647 (totR ts) with h | h
      · omega
      · exact absurd ⟨hp1, h⟩ hp
    subst hrv htv
    clear h h1 hrr hat' hm t1 hp hp1
    subst hW1
    clear b0 b1
    go_enter Try.func25, Try.ntmps25
    go_wp2_with (first
        | (go_at_call 35; refine HM.out.mono ?_; rintro e w2 ⟨rfl, t2⟩; obtain ⟨q0, q1, q2⟩ := HB.out _ t2; have HPF2 := hid (HPF.out _ t2); have HT2 := hid t2; clear t2)
        | (go_at_call 45; refine HPF2.out.mono ?_; rintro e w3 ⟨v3, rfl, mk3⟩; have t3 := HT2.out.then mk3.tn; obtain ⟨r0, r1, r2⟩ := HB.out _ t3; have HL3 := hid mk3.lr; have HT3 := hid t3; clear mk3 t3)
        | (go_at_call 46; refine (HPL.out _).mono ?_; rintro e w' ⟨rfl, rfl⟩))
    go_ret3
    exact ⟨rfl, HTN.out _ HT3.out⟩

set_option maxHeartbeats 8000000 in
set_option maxRecDepth 100000 in
theorem lay_ok (h : GA w tv rv ts rs) (hat : 0 ≤ at_) (hat2 : at_ ≤ 18446744073709551615) (hm : mayG ts rs = true) (hp1 : placeB at_ (totR ts : Int) = true) (hp3 : totR ts ≤ 2147483647) :
    Calls Try.prog 25 #[.agg #[tv, rv], .int .u64 at_] w fun e w' => ∃ bv rv, e = .returned (.tuple #[bv, rv, .int .i64 0]) ∧ LayV w at_ ts rs bv rv w' := by
  have htot : totR ts ≤ 1099511627776 := by omega
  obtain ⟨tot, htt⟩ : ∃ tot, totR ts = tot := ⟨_, rfl⟩
  obtain ⟨W1, hW1⟩ : ∃ W1, w.alloc (.cells #[tv, rv] 27) = W1 := ⟨_, rfl⟩
  have t1 : Tn No w W1 := by rw [← hW1]; exact (Tn.refl No w).alloc _
  have z1 : w.heap.size < W1.heap.size := by rw [← hW1]; simp
  have b0 : W1.cell? ⟨w.heap.size, 0, none⟩ = some tv := by rw [← hW1, World.cell?_alloc_new]; rfl
  have b1 : W1.cell? ⟨w.heap.size, 1, none⟩ = some rv := by rw [← hW1, World.cell?_alloc_new]; rfl
  have h1 := h.no t1
  have HB : Hid (∀ u, Tn No W1 u → u.cell? ⟨w.heap.size, 0, none⟩ = some tv ∧ u.cell? ⟨w.heap.size, 1, none⟩ = some rv ∧ w.heap.size < u.heap.size) := hid (fun u t => ⟨by rw [t.cell z1 (fun e => e), b0], by rw [t.cell z1 (fun e => e), b1], Nat.lt_of_lt_of_le z1 t.size⟩)
  have HM := hid (mayBe_raw tv rv ts rs W1 h1)
  have HTN : Hid (∀ u, Tn No W1 u → Tn No w u) := hid (fun u t => t1.then t)
  obtain ⟨ra, rc, hrv, hrr⟩ := h.roots
  obtain ⟨a, c, htv, hat'⟩ := h.things
  have HPF : Hid (∀ u, Tn No W1 u → Calls Try.prog 45 #[.int .u64 at_, tv] u fun e w' => ∃ v, e = .returned (.tuple #[v, .int .u64 (tot : Int)]) ∧ Mk 1 eU u v (placesR at_ ts) w') := hid (fun u t => htt ▸ places_raw at_ tv ts u (h1.no t).tl hat hat2 htot)
  have HPL := hid (fun u => place_raw at_ (tot : Int) u hat (by omega))
  rw [htt] at hp1 hp3
  rw [hm] at HM
  obtain ⟨m1, m2, m3⟩ := may_parts hm
  rw [hp1] at HPL
  have hp2 : (tot : Int) ≤ 2147483647 := by omega
  have hp4 : (0 : Int) ≤ (tot : Int) := by omega
  have hp5 : IntKind.i64.wrap (tot : Int) = tot := by simp [IntKind.wrap, IntKind.bits, IntKind.signed]; omega
  have hp6 : wrap64 (tot : Int) = tot := by unfold wrap64; omega
  have HLD : Hid (∀ v u u', Tn No W1 u → LR 1 eU u v (placesR at_ ts) → Tn No u u' → Calls Try.prog 47 #[tv, v, .int .i64 (tot : Int)] u' fun e w' => ∃ v', e = .returned v' ∧ Mk 1 eB u' v' (layR (placesR at_ ts) ts) w') := hid (fun v u u' t hl t' =>
    laid_raw tv v ts (placesR at_ ts) tot u' (h1.no (t.then t')).tl (hl.ld.no t') m2 (fun x hx r hr e => by rw [placesR_length]; exact fits_lt (m3 x hx) r hr e) (places_pos at_ ts) (htt ▸ hp3) htt.symm)
  have HWD : Hid (∀ v u u', Tn No W1 u → LR 1 eU u v (placesR at_ ts) → Tn No u u' → Calls Try.prog 48 #[rv, v] u' fun e w' => ∃ v', e = .returned v' ∧ Mk 1 eU u' v' (rs.map (wordR (placesR at_ ts))) w') := hid (fun v u u' t hl t' =>
    words_raw rv v rs (placesR at_ ts) u' (h1.no (t.then t')).roots h1.rlen (hl.ld.no t') (fun r hr e => by rw [placesR_length]; exact fits_lt m1 r hr e))
  have HFIN1 : Hid (∀ u u1 u2 bv wv, Tn No W1 u → Mk 1 eB u bv (layR (placesR at_ ts) ts) u1 → Mk 1 eU u1 wv (rs.map (wordR (placesR at_ ts))) u2 → LayV w at_ ts rs bv wv u2) := hid (fun u u1 u2 bv wv t k1 k2 =>
    ⟨k1.lr.no k2.tn, k2.lr, ((t1.then t).then k1.tn).then k2.tn, fun g hg => Nat.le_trans (t1.then t).size (k1.own g hg), fun g hg => Nat.le_trans ((t1.then t).then k1.tn).size (k2.own g hg)⟩)
  subst hrv htv
  clear h h1 hrr hat' hm t1 m1 m2 m3 hp1 hp3 htt htot
  subst hW1
  clear b0 b1
  go_enter Try.func25, Try.ntmps25
  go_wp2_with (first
    | (go_at_call 35; refine HM.out.mono ?_; rintro e w2 ⟨rfl, t2⟩; obtain ⟨q0, q1, q2⟩ := HB.out _ t2; have HPF2 := hid (HPF.out _ t2); have HT2 := hid t2; clear t2)
    | (go_at_call 45; refine HPF2.out.mono ?_; rintro e w3 ⟨v3, rfl, mk3⟩; have t3 := HT2.out.then mk3.tn; obtain ⟨r0, r1, r2⟩ := HB.out _ t3; have HL3 := hid mk3.lr; have HT3 := hid t3; clear mk3 t3)
    | (go_at_call 46; refine (HPL.out _).mono ?_; rintro e w3 ⟨rfl, rfl⟩))
  have HLD2 : Hid (∀ u', Tn No w3 u' → Calls Try.prog 47 #[.slice a ts.length c, v3, .int .i64 (tot : Int)] u' fun e w' => ∃ v', e = .returned v' ∧ w'.cell? ⟨w.heap.size, 0, none⟩ = some (.slice a ts.length c) ∧ w'.cell? ⟨w.heap.size, 1, none⟩ = some (.slice ra rs.length rc) ∧ w.heap.size < w'.heap.size ∧ Mk 1 eB w3 v' (layR (placesR at_ ts) ts) w') := hid (fun u' t => by
    refine (HLD.out v3 w3 u' HT3.out HL3.out t).mono ?_
    rintro e w' ⟨v', h1, h2⟩
    obtain ⟨y0, y1, y2⟩ := HB.out _ ((HT3.out.then t).then h2.tn)
    exact ⟨v', h1, y0, y1, y2, h2.lr, t.then h2.tn, fun g hg => Nat.le_trans t.size (h2.own g hg)⟩)
  have HWD2 : Hid (∀ u u', Tn No w3 u → Tn No u u' → Calls Try.prog 48 #[.slice ra rs.length rc, v3] u' fun e w' => ∃ v', e = .returned v' ∧ w'.cell? ⟨w.heap.size, 0, none⟩ = some (.slice a ts.length c) ∧ w'.cell? ⟨w.heap.size, 1, none⟩ = some (.slice ra rs.length rc) ∧ w.heap.size < w'.heap.size ∧ Mk 1 eU u v' (rs.map (wordR (placesR at_ ts))) w') := hid (fun u u' t t' => by
    refine (HWD.out v3 w3 u' HT3.out HL3.out (t.then t')).mono ?_
    rintro e w' ⟨v', h1, h2⟩
    obtain ⟨y0, y1, y2⟩ := HB.out _ ((HT3.out.then (t.then t')).then h2.tn)
    exact ⟨v', h1, y0, y1, y2, h2.lr, t'.then h2.tn, fun g hg => Nat.le_trans t'.size (h2.own g hg)⟩)
  clear HLD HWD HPL HPF HM HB HPF2 q0 q1 q2
  go_region_held3 (fun w' => w'.cell? ⟨w.heap.size, 0, none⟩ = some (.slice a ts.length c) ∧ w'.cell? ⟨w.heap.size, 1, none⟩ = some (.slice ra rs.length rc) ∧ w.heap.size < w'.heap.size) (go_keep) (first
    | (go_at_call 47; refine (HLD2.out _ (by repeat (first | exact Tn.refl _ _ | apply Tn.drew | apply Tn.drewN | apply Tn.alloc | (refine Tn.then ?_ (by assumption)) | (refine Tn.thenNo ?_ (by assumption))))).mono ?_; rintro e w4 ⟨v4, rfl, y0, y1, y2, mk4⟩; have HK4 := hid mk4; have HT4 := hid mk4.tn; clear mk4)
    | (go_at_call 48; refine (HWD2.out w4 _ HT4.out (by repeat (first | exact Tn.refl _ _ | apply Tn.drew | apply Tn.drewN | apply Tn.alloc | (refine Tn.then ?_ (by assumption)) | (refine Tn.thenNo ?_ (by assumption))))).mono ?_; rintro e w5 ⟨v5, rfl, y0, y1, y2, mk5⟩; have HK5 := hid mk5; clear mk5))
  go_wp2
  go_ret3
  exact ⟨_, _, rfl, HFIN1.out w3 w4 w5 v4 v5 HT3.out HK4.out HK5.out⟩
end
end Go.Proofs.Ytlkbnjdhokjfnaa
