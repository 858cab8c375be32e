/-
  heap's reference: Lay.
-/
import Derived.Test.YtlkbnjdhokjfnaaRWord
namespace Go.Proofs.Ytlkbnjdhokjfnaa
set_option linter.unusedSimpArgs false
set_option linter.unusedVariables false
open Go.RowKit
attribute [local go_sem ↓] Go.wp_at_zero Go.wp_at_succ

theorem wordR_lt (at_ : Int) (ts : List Th) (r : Rf) : 0 ≤ wordR (placesR at_ ts) r ∧ wordR (placesR at_ ts) r < 18446744073709551616 := by
  unfold wordR
  split
  · cases e : (placesR at_ ts)[r.2.toNat]? with
    | none => simp
    | some x =>
      have hx := List.mem_of_getElem? e
      simp only [placesR, List.mem_map] at hx
      obtain ⟨i, _, rfl⟩ := hx
      simp only [Option.getD_some, IntKind.wrap, IntKind.bits, IntKind.signed]
      simp
      omega
  · omega
theorem headR_lt {k tag : Int} {s : ByteArray} {n : Nat} (h : mayR k tag s n = true) (hs : s.size ≤ 1073741824) (hn : n ≤ 1073741824) : headR k tag s n < 18446744073709551616 := by
  obtain ⟨⟨b1, b2⟩, ⟨b3, b4, b5⟩, _, _⟩ := may_bounds h
  have := lenR_le (k := k) hs hn
  unfold headR
  split <;> omega
theorem placesR_at {A : Nat} {ts : List Th} {k : Nat} (hk : k < ts.length) (h : A + totR (ts.take k) ≤ 9223372036854775808) : (placesR (A : Int) ts).take (k + 1) = (placesR (A : Int) ts).take k ++ [((A + totR (ts.take k) : Nat) : Int)] := by
  rw [placesR_succ hk]
  congr 2
  simp [IntKind.wrap, IntKind.bits, IntKind.signed]
  omega

/-- what the reference's Lay leaves -/
def RLayPost (A : Nat) (ts : List Th) (rs : List Rf) (w : World) (e : Ending) (w' : World) : Prop :=
  (placeB (A : Int) (totR ts : Int) = false ∧ e = .returned (.tuple #[.slice none 0 0, .slice none 0 0, .int .i64 1]) ∧ Tn No w w') ∨
  (placeB (A : Int) (totR ts : Int) = true ∧ ∃ bv rv, e = .returned (.tuple #[bv, rv, .int .i64 0]) ∧ LR 1 eB w' bv (layR (placesR (A : Int) ts) ts) ∧ LR 1 eU w' rv (rs.map (wordR (placesR (A : Int) ts))) ∧ Tn No w w')

set_option maxHeartbeats 2000000 in
set_option maxRecDepth 100000 in
theorem rLay_bad (tv rv : Value) (ts : List Th) (rs : List Rf) (A : Int) (w : World) (h : GA w tv rv ts rs) (hm : mayG ts rs = false) :
    Calls Try.prog 24 #[.agg #[tv, rv], .int .u64 A] w fun e w' => e = .returned (.tuple #[.slice none 0 0, .slice none 0 0, .int .i64 141]) ∧ Tn No w w' := by
  have HCK : Hid (Calls Try.prog 14 #[.agg #[tv, rv]] (w.alloc (.cells #[tv, rv] 27)) fun e w' => e = .returned (.int .i64 141) ∧ Tn No w w') := hid ((rCheck_raw tv rv ts rs _ (h.no ((Tn.refl No w).alloc _))).mono (fun e w' ⟨he, t⟩ => by
    rw [hm] at he
    exact ⟨he, ((Tn.refl No w).alloc _).then t⟩))
  obtain ⟨ra, rc, hrv, -⟩ := h.roots
  obtain ⟨ta, tc, htv, -⟩ := h.things
  obtain ⟨rn, hrn⟩ : ∃ rn, rs.length = rn := ⟨_, rfl⟩
  obtain ⟨m, hmm⟩ : ∃ m, ts.length = m := ⟨_, rfl⟩
  rw [hrn] at hrv
  rw [hmm] at htv
  subst hrv htv
  clear h hm hrn hmm
  go_enter Try.func24, Try.ntmps24
  go_wp2_with (go_at_call 14; refine HCK.out.mono ?_; rintro e wA ⟨rfl, tA⟩; have HTA := hid tA; clear tA)
  go_ret3
  exact ⟨rfl, HTA.out⟩

set_option maxHeartbeats 2000000 in
set_option maxRecDepth 100000 in
theorem rLay_arg (tv rv : Value) (ts : List Th) (rs : List Rf) (A : Nat) (w : World) (h : GA w tv rv ts rs) (hm : mayG ts rs = true) (hA : ¬ (A % 8 = 0 ∧ A ≤ 9223372036854775808)) :
    Calls Try.prog 24 #[.agg #[tv, rv], .int .u64 (A : Int)] w fun e w' => e = .returned (.tuple #[.slice none 0 0, .slice none 0 0, .int .i64 1]) ∧ Tn No w w' := by
  have HCK : Hid (Calls Try.prog 14 #[.agg #[tv, rv]] (w.alloc (.cells #[tv, rv] 27)) fun e w' => e = .returned (.int .i64 0) ∧ Tn No w w') := hid ((rCheck_raw tv rv ts rs _ (h.no ((Tn.refl No w).alloc _))).mono (fun e w' ⟨he, t⟩ => by
    rw [hm] at he
    exact ⟨he, ((Tn.refl No w).alloc _).then t⟩))
  obtain ⟨ra, rc, hrv, -⟩ := h.roots
  obtain ⟨ta, tc, htv, -⟩ := h.things
  obtain ⟨rn, hrn⟩ : ∃ rn, rs.length = rn := ⟨_, rfl⟩
  obtain ⟨m, hmm⟩ : ∃ m, ts.length = m := ⟨_, rfl⟩
  rw [hrn] at hrv
  rw [hmm] at htv
  subst hrv htv
  clear h hm hrn hmm
  by_cases h8 : A % 8 = 0
  · have d8 : ((A : Int) % 8 != 0) = false := by simp; omega
    have hgt : (9223372036854775808 : Int) < (A : Int) := by omega
    clear hA h8
    go_enter Try.func24, Try.ntmps24
    go_wp2_with (go_at_call 14; refine HCK.out.mono ?_; rintro e wA ⟨rfl, tA⟩; have HTA := hid tA; clear tA)
    go_ret3
    exact ⟨rfl, HTA.out⟩
  · have d8 : ((A : Int) % 8 != 0) = true := by simp; omega
    clear hA h8
    go_enter Try.func24, Try.ntmps24
    go_wp2_with (go_at_call 14; refine HCK.out.mono ?_; rintro e wA ⟨rfl, tA⟩; have HTA := hid tA; clear tA)
    go_ret3
    exact ⟨rfl, HTA.out⟩

set_option maxHeartbeats 16000000 in
set_option maxRecDepth 100000 in
theorem rLay_raw (tv rv : Value) (ts : List Th) (rs : List Rf) (A : Nat) (w : World) (h : GA w tv rv ts rs) (hm : mayG ts rs = true) (htot : totR ts ≤ 16777216) (hA8 : A % 8 = 0) (hA : A ≤ 9223372036854775808) :
    Calls Try.prog 24 #[.agg #[tv, rv], .int .u64 (A : Int)] w (RLayPost A ts rs w) := by
  obtain ⟨m, hmm⟩ : ∃ m, ts.length = m := ⟨_, rfl⟩
  have htl := h.tlen
  have hrl := h.rlen
  rw [hmm] at htl
  obtain ⟨m1, m2, m3⟩ := may_parts hm
  have hmt : ∀ t ∈ ts, mayT t = true := List.all_eq_true.1 m2
  have f1 : ∀ r ∈ rs, fitsR m r = true := by rw [← hmm]; exact List.all_eq_true.1 m1
  have f3 : ∀ t ∈ ts, ∀ r ∈ t.refs, fitsR m r = true := fun t ht => by rw [← hmm]; exact List.all_eq_true.1 (m3 t ht)
  obtain ⟨ps, hps⟩ : ∃ ps, placesR (A : Int) ts = ps := ⟨_, rfl⟩
  have hpl : ps.length = m := by rw [← hps, placesR_length, hmm]
  have hwb : ∀ r, 0 ≤ wordR ps r ∧ wordR ps r < 18446744073709551616 := fun r => by rw [← hps]; exact wordR_lt _ _ r
  have hval : ∀ (r : Rf), fitsR m r = true → ∀ (pv : Value) (u : World), LD 1 eU u pv ps → Calls Try.prog 44 #[.agg #[.int .i64 r.1, .int .i64 r.2], pv] u fun e w' => e = .returned (.int .u64 (wordR ps r)) ∧ Tn No u w' := fun r hf pv u hld => by
    simp only [fitsR, decide_eq_true_eq] at hf
    exact rValue_raw r pv ps u hld (fun e => by omega) (by omega) (fun e => by omega)
  have HVR : Hid (∀ (x : Nat) (r : Rf), rs[x]? = some r → ∀ (pv : Value) (u : World), LD 1 eU u pv ps → Calls Try.prog 44 #[.agg #[.int .i64 r.1, .int .i64 r.2], pv] u fun e w' => e = .returned (.int .u64 (wordR ps r)) ∧ Tn No u w') := hid (fun x r e => hval r (f1 r (List.mem_of_getElem? e)))
  have HW : Hid (∀ t ∈ ts, ∀ r ∈ t.refs, ∀ (pv : Value) (u : World), LD 1 eU u pv ps → Calls Try.prog 44 #[.agg #[.int .i64 r.1, .int .i64 r.2], pv] u fun e w' => e = .returned (.int .u64 (wordR ps r)) ∧ Tn No u w') := hid (fun t ht r hr => hval r (f3 t ht r hr))
  have HTA := hid h.each
  have HSZ : Hid (∀ t ∈ ts, ∀ u, Calls Try.prog 10 #[t.val] u fun e w' => e = .returned (.int .i64 (t.size : Int)) ∧ Tn No u w') := hid (fun t ht u => by
    obtain ⟨a, c, e⟩ := (h.each t ht).form
    have := rSize_raw t.kind t.tag t.bytes a t.refs.length c u (h.each t ht).bytes (h.each t ht).len
    have hmr : mayR t.kind t.tag t.bytes t.refs.length = true := hmt t ht
    rw [hmr] at this
    unfold Th.val
    rw [e]
    exact this)
  have HH : Hid (∀ t ∈ ts, ∀ u, Calls Try.prog 12 #[t.val] u fun e w' => e = .returned (.int .u64 (headR t.kind t.tag t.bytes t.refs.length : Int)) ∧ Tn No u w') := hid (fun t ht u => by
    obtain ⟨a, c, e⟩ := (h.each t ht).form
    have := rHeader_raw t.kind t.tag t.bytes a t.refs.length c u (h.each t ht).bytes (h.each t ht).len
    have hmr : mayR t.kind t.tag t.bytes t.refs.length = true := hmt t ht
    rw [hmr] at this
    unfold Th.val
    rw [e]
    exact this)
  have HHB : Hid (∀ t ∈ ts, headR t.kind t.tag t.bytes t.refs.length < 18446744073709551616) := hid (fun t ht => headR_lt (hmt t ht) (h.each t ht).bytes (h.each t ht).len)
  have HMB : Hid (∀ t ∈ ts, t.kind = 8 → 0 ≤ t.tag ∧ t.tag < 4194304 ∧ t.bytes.size = 0) := hid (fun t ht e8 => by
    have h1 := (may_bounds (hmt t ht)).2.1
    have h2 := (may_bounds (hmt t ht)).2.2.2 (by rw [e8]; rfl)
    exact ⟨h1.1, h1.2.2, by rw [h2]; rfl⟩)
  have HCK : Hid (Calls Try.prog 14 #[.agg #[tv, rv]] (w.alloc (.cells #[tv, rv] 27)) fun e w' => e = .returned (.int .i64 0) ∧ (w'.cell? ⟨w.heap.size, 0, none⟩ = some tv ∧ w'.cell? ⟨w.heap.size, 1, none⟩ = some rv ∧ w.heap.size < w'.heap.size) ∧ Tn No w w') := hid ((rCheck_raw tv rv ts rs _ (h.no ((Tn.refl No w).alloc _))).mono (fun e w' ⟨he, t⟩ => by
    rw [hm] at he
    have z := t.size
    simp at z
    refine ⟨he, ⟨?_, ?_, by omega⟩, ((Tn.refl No w).alloc _).then t⟩ <;> (rw [t.cell (by simp) (fun e => e), World.cell?_alloc_new]; rfl))
    )
  obtain ⟨ra, rc, hrv, hrc, hrcm, hrat⟩ := h.roots
  obtain ⟨ta, tc, htv, hct, hcm, hat⟩ := h.things
  have HAT := hid hat
  have HRAT := hid hrat
  have HM := hid hmm
  have HTOT := hid htot
  have HPS := hid hps
  have HPLN := hid hpl
  have HWB := hid hwb
  obtain ⟨rn, hrn⟩ : ∃ rn, rs.length = rn := ⟨_, rfl⟩
  have HRN := hid hrn
  rw [hrn] at hrv hrl hrc
  rw [hmm] at htv hct
  subst hrv htv
  have d8 : ((A : Int) % 8 != 0) = false := by simp; omega
  have hAi : (A : Int) ≤ 9223372036854775808 := by omega
  have HPT : Hid (∀ k, k ≤ m → A + totR (ts.take k) ≤ 9223372036854775808 → k = m → placeB (A : Int) (totR ts : Int) = true) := hid (fun k hk hle e => by
    rw [List.take_of_length_le (by omega)] at hle
    simp only [placeB, decide_eq_true_eq]
    omega)
  have HPF : Hid (∀ k, k < m → ¬ (A + totR (ts.take (k + 1)) ≤ 9223372036854775808) → placeB (A : Int) (totR ts : Int) = false) := hid (fun k hk hle => by
    have := totR_le (ts := ts) (k + 1)
    simp only [placeB, decide_eq_false_iff_not]
    omega)
  clear h hat hrat hmm hrn hm m1 m2 m3 hmt f1 f3 hval hps hpl hwb htot hA8
  go_enter Try.func24, Try.ntmps24
  go_wp2_with (go_at_call 14; refine HCK.out.mono ?_; rintro e wA ⟨rfl, ⟨x0, x1, x2⟩, tA⟩; have HTNA := hid tA; clear tA)
  clear HCK
  have HMK0 : Hid (Mk 1 eU wA (.slice none 0 0) ([] : List Int) wA) := hid ⟨LR.nil _ _ _, Tn.refl _ _, fun g hg => by cases hg⟩
  go_loopw [8, 9, 10] (fun v e i wr => ∃ k : Nat, k ≤ m ∧ i = .int .i64 (k : Int) ∧ e = .int .u64 ((A + totR (ts.take k) : Nat) : Int) ∧ A + totR (ts.take k) ≤ 9223372036854775808 ∧ Mk 1 eU wA v (ps.take k) wr) (fun _ _ i _ => m - (intOf i).toNat)
  case atStart => exact ⟨0, by omega, rfl, rfl, by simpa [totR] using hA, HMK0.out⟩
  case round =>
    obtain ⟨k, hk, rfl, rfl, hE, hmk⟩ := hrel
    clear HMK0
    have g0 : wr.cell? ⟨w.heap.size, 0, none⟩ = some (.slice ta m tc) := by rw [hmk.tn.cell x2 (fun e => e)]; exact x0
    have g1 : wr.cell? ⟨w.heap.size, 1, none⟩ = some (.slice ra rn rc) := by rw [hmk.tn.cell x2 (fun e => e)]; exact x1
    have g2 : w.heap.size < wr.heap.size := Nat.lt_of_lt_of_le x2 hmk.tn.size
    by_cases hlt : k < m
    · have hkl : k < ts.length := by have := HM.out; omega
      obtain ⟨g, o, rfl, hg, hcell⟩ := HAT.out (by omega)
      obtain ⟨q0, q1, q2, q3⟩ := thing_cells hcell k hkl
      have htw := HTNA.out.then hmk.tn
      rw [← htw.cell hg (fun e => e)] at q0 q1 q2 q3
      have hgl : g < wr.heap.size := Nat.lt_of_lt_of_le hg htw.size
      obtain ⟨xa, xc, hx⟩ := (HTA.out _ (List.getElem_mem hkl)).form
      have hsz := HSZ.out _ (List.getElem_mem hkl)
      have htk := totR_succ hkl
      have hpk := placesR_at (A := A) hkl hE
      rw [HPS.out] at hpk
      unfold Th.val at hsz
      rw [hx] at q3 hsz
      have htle := totR_le (ts := ts) (k + 1)
      have htot := HTOT.out
      obtain ⟨S, hS⟩ : ∃ S, ts[k].size = S := ⟨_, rfl⟩
      have htk2 : totR (ts.take (k + 1)) = totR (ts.take k) + S := by rw [← hS]; exact htk
      rw [hS] at hsz
      obtain ⟨E, hEE⟩ : ∃ E, A + totR (ts.take k) = E := ⟨_, rfl⟩
      have hE2 : A + totR (ts.take (k + 1)) = E + S := by omega
      rw [hEE] at hpk hE
      rw [hEE]
      have tn1 : Tn No wr (wr.alloc (.cells #[.int .u64 (E : Int)] 29)) := (by repeat (first | exact Tn.refl _ _ | apply Tn.drew | apply Tn.drewN | apply Tn.alloc | (refine Tn.then ?_ (by assumption)) | (refine Tn.thenNo ?_ (by assumption))))
      obtain ⟨v', w', hr, hlr, hou⟩ := lu_push (hmk.no tn1).lr (E : Int) wr.heap.size (by rw [World.cell?_alloc_new]; rfl) (by simp; omega)
      rw [← hpk] at hlr
      have hmk2 := (hmk.no tn1).step hlr hou
      have HR := hid hr
      have HMK2 := hid hmk2
      have y0 : w'.cell? ⟨w.heap.size, 0, none⟩ = some (.slice (some ⟨g, o, none⟩) m tc) := by rw [hmk2.tn.cell x2 (fun e => e)]; exact x0
      have y1 : w.heap.size < w'.heap.size := Nat.lt_of_lt_of_le x2 hmk2.tn.size
      have y2 : g < w'.heap.size := Nat.lt_of_lt_of_le hg (HTNA.out.then hmk2.tn).size
      obtain ⟨z0, z1, z2, z3⟩ : w'.cell? ⟨g, o + k * 4, none⟩ = _ ∧ w'.cell? ⟨g, o + k * 4 + 1, none⟩ = _ ∧ w'.cell? ⟨g, o + k * 4 + 2, none⟩ = _ ∧ w'.cell? ⟨g, o + k * 4 + 3, none⟩ = _ := by
        have t9 := HTNA.out.then hmk2.tn
        rw [t9.cell hg (fun e => e), t9.cell hg (fun e => e), t9.cell hg (fun e => e), t9.cell hg (fun e => e), ← htw.cell hg (fun e => e), ← htw.cell hg (fun e => e), ← htw.cell hg (fun e => e), ← htw.cell hg (fun e => e)]
        exact ⟨q0, q1, q2, q3⟩
      have HSZ' := hid (hsz w')
      have hki : (k : Int) < (m : Int) := by omega
      have hEi : (E : Int) ≤ 9223372036854775808 := by omega
      have hSi : (S : Int) ≤ 16777216 := by omega
      have HPF' := hid (HPF.out k hlt)
      rw [hE2] at HPF'
      have HE2 := hid hE2
      have HTN' := hid (HTNA.out.then hmk2.tn)
      obtain ⟨t, htt⟩ : ∃ t, ts[k] = t := ⟨_, rfl⟩
      rw [htt] at z0 z1 z2 z3 HSZ'
      obtain ⟨kind, tag, bytes, rv', refs⟩ := t
      dsimp only at z0 z1 z2 z3 HSZ'
      generalize refs.length = rm at *
      clear hcell hx hsz htk hpk htle htot htk2 hS hEE hE2 tn1 hr hlr hou hmk2 hmk htw htt q0 q1 q2 q3 g1 HAT HTA HSZ HRAT HVR HW HH HHB HMB HPT HPF HWB
      by_cases hfit : (S : Int) ≤ 9223372036854775808 - (E : Int)
      · go_wp2_with (first
          | (at_builtin; refine wpList_app _ rfl _ _ _ _ rfl _ _ rfl rfl v' w' HR.out ?_)
          | (go_at_call 10; refine HSZ'.out.mono ?_; rintro e w9 ⟨rfl, t9⟩; have HT9 := hid t9; clear t9))
        go_roundw
        case rel => exact ⟨k + 1, by omega, by go_num, by rw [HE2.out]; go_num, by rw [HE2.out]; omega, HMK2.out.no HT9.out⟩
        case measure => simp [intOf]; omega
      · have hfit2 : 9223372036854775808 - (E : Int) < (S : Int) := by omega
        have HPF2 := hid (HPF'.out (by omega))
        clear hfit
        go_wp2_with (first
          | (at_builtin; refine wpList_app _ rfl _ _ _ _ rfl _ _ rfl rfl v' w' HR.out ?_)
          | (go_at_call 10; refine HSZ'.out.mono ?_; rintro e w9 ⟨rfl, t9⟩; have HT9 := hid t9; clear t9))
        go_ret3
        exact .inl ⟨HPF2.out, rfl, HTN'.out.then HT9.out⟩
    · obtain rfl : m = k := by omega
      have HPT' := hid (HPT.out m (Nat.le_refl _) hE rfl)
      have hfull : ps.take m = ps := List.take_of_length_le (by have := HPLN.out; omega)
      rw [hfull] at hmk
      obtain ⟨pa, pc, hpf, _⟩ := hmk.lr.rw.form
      rw [HPLN.out] at hpf
      subst hpf
      obtain ⟨wP, hwP⟩ : ∃ wP, wP = wr := ⟨_, rfl⟩
      subst hwP
      have HPL := hid hmk.lr.ld
      have HTNP := hid (HTNA.out.then hmk.tn)
      generalize A + totR (ts.take m) = E at *
      clear hmk HPF HPT HSZ hfull hE x0 x1 x2 HTNA
      have HMK : Hid (Mk 1 eB wP (.slice none 0 0) ([] : List UInt8) wP) := hid ⟨LR.nil _ _ _, Tn.refl _ _, fun g hg => by cases hg⟩
      go_wp2_with fail
      go_loopw [12, 13] (fun v i wr => ∃ k : Nat, k ≤ m ∧ i = .int .i64 (k : Int) ∧ Mk 1 eB wP v (layR ps (ts.take k)) wr) (fun _ i _ => m - (intOf i).toNat)
      case atStart => exact ⟨0, by omega, rfl, HMK.out⟩
      case round =>
        obtain ⟨k, hk, rfl, hmk⟩ := hrel
        obtain ⟨wo, hwo⟩ : ∃ wo, wo = wr := ⟨_, rfl⟩
        subst hwo
        clear HMK
        have b0 : wo.cell? ⟨w.heap.size, 0, none⟩ = some (.slice ta m tc) := by rw [hmk.tn.cell g2 (fun e => e)]; exact g0
        have b1 : wo.cell? ⟨w.heap.size, 1, none⟩ = some (.slice ra rn rc) := by rw [hmk.tn.cell g2 (fun e => e)]; exact g1
        have b2 : w.heap.size < wo.heap.size := Nat.lt_of_lt_of_le g2 hmk.tn.size
        by_cases hlt : k < m
        · have hkl : k < ts.length := by have := HM.out; omega
          obtain ⟨g, o, rfl, hg, hcell⟩ := HAT.out (by omega)
          obtain ⟨q0, q1, q2, q3⟩ := thing_cells hcell k hkl
          have htw := HTNP.out.then hmk.tn
          rw [← htw.cell hg (fun e => e)] at q0 q1 q2 q3
          have hgl : g < wo.heap.size := Nat.lt_of_lt_of_le hg htw.size
          have hmem : ts[k] ∈ ts := List.getElem_mem hkl
          have hta := HTA.out _ hmem
          have hh := HH.out _ hmem
          have hHb := HHB.out _ hmem
          have hw2 := HW.out _ hmem
          have hmb := HMB.out _ hmem
          have HLS := hid (layR_succ ps hkl)
          have htu := totR_succ hkl
          have htl2 := totR_le (ts := ts) (k + 1)
          have htl3 := HTOT.out
          have hlen0 := layR_length ps (ts.take k)
          have hl8 := tot8 (ts.take k)
          obtain ⟨xa, xc, hx, hxc, hxcm, hxat⟩ := hta.refs
          have hbs := hta.bytes
          have hrl' := hta.len
          unfold Th.val at hh
          rw [hx] at q3 hh
          obtain ⟨th, hth⟩ : ∃ th, ts[k] = th := ⟨_, rfl⟩
          rw [hth] at q0 q1 q2 q3 hh hHb hw2 hmb HLS htu hbs hrl' hxc hxat
          have HBR : Hid (bytesR ps th = Hp.le 8 (headR th.kind th.tag th.bytes th.refs.length) ++ th.bytes.data.toList ++ Hp.pad th.bytes.size ++ cloB th.kind th.tag ++ refsB ps th.refs) := hid rfl
          obtain ⟨kind, tag, bytes, rv', refs⟩ := th
          simp only [Th.size, sizeR] at q0 q1 q2 q3 hh hHb hw2 hmb htu hbs hrl' hxc hxat HBR
          obtain ⟨L, hL⟩ : ∃ L, layR ps (ts.take k) = L := ⟨_, rfl⟩
          rw [hL] at hmk HLS hlen0
          obtain ⟨rm, hrm⟩ : ∃ rm, refs.length = rm := ⟨_, rfl⟩
          rw [hrm] at q3 hh hHb htu hrl' hxc HBR
          have HRMM := hid hrm
          obtain ⟨H, hH⟩ : ∃ H, headR kind tag bytes rm = H := ⟨_, rfl⟩
          rw [hH] at hh hHb HBR
          have HXAT := hid hxat
          have HB := hid (Lp.begin hmk #[.int .i64 kind, .int .i64 tag, .string bytes, .slice xa rm xc] 24)
          have eb : bytes.data.toList.length = bytes.size := by simp
          have HC := hid hh
          have HW2 : Hid (∀ r ∈ refs, ∀ u, Tn No wP u → Calls Try.prog 44 #[.agg #[.int .i64 r.1, .int .i64 r.2], .slice pa m pc] u fun e w' => e = .returned (.int .u64 (wordR ps r)) ∧ Tn No u w') := hid (fun r hr u t => hw2 r hr _ u (HPL.out.no t))
          have hki : (k : Int) < (m : Int) := by omega
          have hLb : L.length + bytes.size + 8 * rm + 32 ≤ 2147483680 ∧ L.length % 8 = 0 := by
            have e2 : bytes.size ≤ 8 * ((bytes.size + 7) / 8) := by omega
            split at htu <;> omega
          obtain ⟨hLb1, hLb2⟩ := hLb
          have zr : wo.heap.size < (wo.alloc (.cells #[.int .i64 kind, .int .i64 tag, .string bytes, .slice xa rm xc] 24)).heap.size := by simp
          have HTNP2 := hid HTNP.out
          clear hxat hcell hh hw2 hmem hta hL hrm hH hx hth hkl htu htl2 htl3 hlen0 hl8 hmk htw HAT HTA HH HHB HW HMB HTOT HRAT HVR HPL HTNP HPT' HPS HPLN g0 g1 b1
          obtain ⟨P, hP⟩ : ∃ P, 8 * ((bytes.size + 7) / 8) - bytes.size = P := ⟨_, rfl⟩
          have hP2 : (bytes.size + P) % 8 = 0 ∧ P < 8 := by omega
          have HPAD : Hid (Hp.pad bytes.size = List.replicate P 0) := hid (by rw [Hp.pad, hP])
          obtain ⟨X, hX⟩ : ∃ X, L ++ Hp.le 8 H ++ bytes.data.toList = X := ⟨_, rfl⟩
          have hXl : X.length = L.length + 8 + bytes.size := by rw [← hX]; simp [Hp.le_length]; omega
          have HX := hid hX
          clear hX hP
          by_cases h8 : kind = 8
          · obtain ⟨h0, h1, hb0⟩ := hmb h8
            have hP0 : P = 0 := by omega
            obtain ⟨T, rfl⟩ : ∃ T : Nat, tag = (T : Int) := ⟨tag.toNat, by omega⟩
            have HCLO : Hid (cloB kind (T : Int) = Hp.le 8 (4194304 + 16 * T)) := hid (by rw [cloB, if_pos h8, Int.toNat_natCast])
            subst h8
            have H1 := hid h1
            clear hmb h0 h1 hb0
            have HPC : Hid (∀ u v, Lp wP wo.heap.size #[.int .i64 8, .int .i64 (T : Int), .string bytes, .slice xa rm xc] v X u → Lp wP wo.heap.size #[.int .i64 8, .int .i64 (T : Int), .string bytes, .slice xa rm xc] v (X ++ List.replicate 0 0) u) := hid (fun u v h => by simpa using h)
            go_wp2_with (first
              | (go_at_call 12; refine (HC.out _).mono ?_; rintro e w2 ⟨rfl, t2⟩; have hlp := HB.out.no t2; have HP := hid (hlp.word H _ rfl hHb (by omega) _ (Tn.refl No _)); clear t2 hlp)
              | (go_at_call 43; refine HP.out.mono ?_; rintro e w3 ⟨g3, cc3, rfl, v3, w3b, hr3, hlp3⟩; obtain ⟨v4, w4, hr4, hlp4⟩ := hlp3.text bytes (by simp [Hp.le_length]; omega) (by omega); have c2 := hlp3.cells 2; have z3 := hlp3.lt; simp only [List.getElem?_toArray, List.getElem?_cons_zero, List.getElem?_cons_succ] at c2; rw [HX.out] at hlp4; have HR3 := hid hr3; have HR4 := hid hr4; have HL4 := hid hlp4; clear hr3 hr4 hlp4 hlp3)
              | (at_builtin; refine wpList_app _ rfl _ _ _ _ rfl _ _ rfl rfl v4 w4 HR4.out ?_)
              | (at_builtin; refine wpList_app _ rfl _ _ _ _ rfl _ _ rfl rfl v3 w3b HR3.out ?_))
            go_loopw [12] (fun v ww => ∃ j : Nat, j ≤ P ∧ Lp wP wo.heap.size #[.int .i64 8, .int .i64 (T : Int), .string bytes, .slice xa rm xc] v (X ++ List.replicate j 0) ww) (fun v _ => X.length + P - sliceLen v)
            case atStart => exact ⟨0, Nat.zero_le _, HPC.out _ _ HL4.out⟩
            case round =>
              obtain ⟨j, hj, hlp⟩ := hrel
              obtain ⟨wi, hwi⟩ : ∃ wi, wi = wr := ⟨_, rfl⟩
              subst hwi
              clear HPC HL4 HR4 HR3 HP HB HC
              obtain ⟨va, vcp, hv⟩ := hlp.form
              have hlen : (X ++ List.replicate j (0 : UInt8)).length = X.length + j := by simp
              rw [hlen] at hv
              subst hv
              by_cases hj2 : j < P
              · omega
              · obtain rfl : j = P := by omega
                have d1 : (((X.length + j : Nat) : Int) % 8 == 0) = true := by simp; omega
                have d2 : (((X.length + j : Nat) : Int) % 8 != 0) = false := by simp; omega
                have c0 := hlp.cells 0
                have c1 := hlp.cells 1
                have c3 := hlp.cells 3
                have zb := hlp.lt
                simp only [List.getElem?_toArray, List.getElem?_cons_zero, List.getElem?_cons_succ] at c0 c1 c3
                have h1 := H1.out
                have HP2 := hid (hlp.word (4194304 + 16 * T) (4194304 + 16 * (T : Int)) (by omega) (by omega) (by rw [hlen]; omega) _ (Tn.refl No _))
                have HLP := hid hlp
                clear hlp
                clear hlen
                obtain ⟨n5, hn5⟩ : ∃ n5, X.length + j = n5 := ⟨_, rfl⟩
                rw [hn5] at d1 d2 HP2 ⊢
                have HN5 := hid hn5
                have hb5 : (n5 : Int) ≤ 4294967295 := by omega
                clear hn5
                go_wp2_with (first
                  | (go_at_call 43; refine HP2.out.mono ?_; rintro e w6 ⟨g6, cc6, rfl, v6, w6b, hr6, hlp6⟩; have c3' := hlp6.cells 3; have z6 := hlp6.lt; simp only [List.getElem?_toArray, List.getElem?_cons_zero, List.getElem?_cons_succ] at c3'; rw [← HCLO.out] at hlp6; have HR6 := hid hr6; have HLQ := hid hlp6; clear hr6 hlp6)
                  | (at_builtin; refine wpList_app _ rfl _ _ _ _ rfl _ _ rfl rfl v6 w6b HR6.out ?_))
                obtain ⟨Y, hY⟩ : ∃ Y, X ++ List.replicate j 0 ++ cloB 8 (T : Int) = Y := ⟨_, rfl⟩
                rw [hY] at HLQ
                have HY := hid hY
                have hYl : Y.length ≤ X.length + j + 8 := by rw [← hY, HCLO.out]; simp only [List.length_append, List.length_replicate, Hp.le_length, List.length_nil]; omega
                clear hY d1 d2
                go_loopw [12, 15] (fun v i ww => ∃ q : Nat, q ≤ rm ∧ i = .int .i64 (q : Int) ∧ Lp wP wo.heap.size #[.int .i64 8, .int .i64 (T : Int), .string bytes, .slice xa rm xc] v (Y ++ refsB ps (refs.take q)) ww) (fun _ i _ => rm - (intOf i).toNat)
                case atStart => exact ⟨0, Nat.zero_le _, rfl, by have := HLQ.out; simpa [refsB] using this⟩
                case round =>
                  obtain ⟨q, hq, rfl, hlp⟩ := hrel
                  clear HLP HLQ
                  have e3 := hlp.cells 3
                  have ez := hlp.lt
                  simp only [List.getElem?_toArray, List.getElem?_cons_zero, List.getElem?_cons_succ] at e3
                  by_cases hq2 : q < rm
                  · have hql : q < refs.length := by have := HRMM.out; omega
                    obtain ⟨xg, xo, rfl, hxg, hxcell⟩ := HXAT.out (by omega)
                    obtain ⟨p0, p1⟩ := ref_cells hxcell q hql
                    have htq := HTNP2.out.then hlp.mkd.tn
                    rw [← htq.cell hxg (fun e => e)] at p0 p1
                    have hxgl : xg < wr.heap.size := Nat.lt_of_lt_of_le hxg htq.size
                    have hcw := HW2.out _ (List.getElem_mem hql)
                    have hsu := refsB_succ ps hql
                    have hwp := HWB.out refs[q]
                    obtain ⟨r, hrr⟩ : ∃ r, refs[q] = r := ⟨_, rfl⟩
                    rw [hrr] at p0 p1 hcw hsu hwp
                    obtain ⟨rk, rn'⟩ := r
                    simp only at p0 p1 hcw
                    obtain ⟨x, hx⟩ : ∃ x : Nat, wordR ps (rk, rn') = (x : Int) := ⟨(wordR ps (rk, rn')).toNat, by omega⟩
                    rw [hx] at hcw hsu hwp
                    rw [Int.toNat_natCast] at hsu
                    have hxb : x < 18446744073709551616 := by omega
                    have hll : (Y ++ refsB ps (refs.take q)).length ≤ 4294967000 := by
                      simp only [List.length_append, refsB_length, List.length_take]
                      omega
                    have HCW : Hid (Calls Try.prog 44 #[.agg #[.int .i64 rk, .int .i64 rn'], .slice pa m pc] wr fun e w' => e = .returned (.int .u64 (x : Int)) ∧ Tn No wr w') := hid (hcw wr hlp.mkd.tn)
                    have HPU : Hid (∀ u, Tn No wr u → Calls Try.prog 43 #[.int .u64 (x : Int)] u fun e w' => ∃ g c, e = .returned (.slice (some ⟨g, 0, none⟩) 8 c) ∧ ∃ v' w'', (Builtin.append_ #[40, 40] 40 #[u12, .slice (some ⟨g, 0, none⟩) 8 c]).run Try.prog w' = .ok v' w'' ∧ Lp wP wo.heap.size #[.int .i64 8, .int .i64 (T : Int), .string bytes, .slice (some ⟨xg, xo, none⟩) rm xc] v' (Y ++ refsB ps (refs.take (q + 1))) w'') := hid (fun u t => (hlp.word x _ rfl hxb hll u t).mono (fun e w' ⟨g9, c9, he, v', w'', hr9, hl9⟩ => ⟨g9, c9, he, v', w'', hr9, by rw [List.append_assoc, ← hsu] at hl9; exact hl9⟩))
                    have hqi : (q : Int) < (rm : Int) := by omega
                    clear hcw hsu hwp hx hll hxcell hrr hql hlp htq HXAT HW2
                    go_wp2_with (first
                      | (go_at_call 44; refine HCW.out.mono ?_; rintro e w7 ⟨rfl, t7⟩; have HT7 := hid t7; clear t7)
                      | (go_at_call 43; refine (HPU.out _ HT7.out).mono ?_; rintro e w8 ⟨g8, c8, rfl, v8, w8b, hr8, hlp8⟩; have HR8 := hid hr8; have HL8 := hid hlp8; clear hr8 hlp8)
                      | (at_builtin; refine wpList_app _ rfl _ _ _ _ rfl _ _ rfl rfl v8 w8b HR8.out ?_))
                    go_roundw
                    case rel => exact ⟨q + 1, by omega, by go_num, HL8.out⟩
                    case measure => simp [intOf]; omega
                  · obtain rfl : q = rm := by omega
                    have HLP := hid hlp
                    clear hlp
                    go_wp2_with fail
                    go_roundw
                    case rel =>
                      refine ⟨k + 1, by omega, by go_num, ?_⟩
                      have h1 := HLP.out.mkd
                      have e1 : refs.take q = refs := List.take_of_length_le (by have := HRMM.out; omega)
                      rw [e1, ← HY.out, ← HX.out, ← HPAD.out] at h1
                      rw [HLS.out, HBR.out]
                      simpa only [List.append_assoc] using h1
                    case measure => simp [intOf]; omega
          · have d8' : (kind == 8) = false := by simpa using h8
            have HCLO : Hid (cloB kind tag = []) := hid (by simp [cloB, h8])
            clear hmb h8
            have HPC : Hid (∀ u v, Lp wP wo.heap.size #[.int .i64 kind, .int .i64 tag, .string bytes, .slice xa rm xc] v X u → Lp wP wo.heap.size #[.int .i64 kind, .int .i64 tag, .string bytes, .slice xa rm xc] v (X ++ List.replicate 0 0) u) := hid (fun u v h => by simpa using h)
            go_wp2_with (first
              | (go_at_call 12; refine (HC.out _).mono ?_; rintro e w2 ⟨rfl, t2⟩; have hlp := HB.out.no t2; have HP := hid (hlp.word H _ rfl hHb (by omega) _ (Tn.refl No _)); clear t2 hlp)
              | (go_at_call 43; refine HP.out.mono ?_; rintro e w3 ⟨g3, cc3, rfl, v3, w3b, hr3, hlp3⟩; obtain ⟨v4, w4, hr4, hlp4⟩ := hlp3.text bytes (by simp [Hp.le_length]; omega) (by omega); have c2 := hlp3.cells 2; have z3 := hlp3.lt; simp only [List.getElem?_toArray, List.getElem?_cons_zero, List.getElem?_cons_succ] at c2; rw [HX.out] at hlp4; have HR3 := hid hr3; have HR4 := hid hr4; have HL4 := hid hlp4; clear hr3 hr4 hlp4 hlp3)
              | (at_builtin; refine wpList_app _ rfl _ _ _ _ rfl _ _ rfl rfl v4 w4 HR4.out ?_)
              | (at_builtin; refine wpList_app _ rfl _ _ _ _ rfl _ _ rfl rfl v3 w3b HR3.out ?_))
            go_loopw [12] (fun v ww => ∃ j : Nat, j ≤ P ∧ Lp wP wo.heap.size #[.int .i64 kind, .int .i64 tag, .string bytes, .slice xa rm xc] v (X ++ List.replicate j 0) ww) (fun v _ => X.length + P - sliceLen v)
            case atStart => exact ⟨0, Nat.zero_le _, HPC.out _ _ HL4.out⟩
            case round =>
              obtain ⟨j, hj, hlp⟩ := hrel
              obtain ⟨wi, hwi⟩ : ∃ wi, wi = wr := ⟨_, rfl⟩
              subst hwi
              clear HPC HL4 HR4 HR3 HP HB HC
              obtain ⟨va, vcp, hv⟩ := hlp.form
              have hlen : (X ++ List.replicate j (0 : UInt8)).length = X.length + j := by simp
              rw [hlen] at hv
              subst hv
              by_cases hj2 : j < P
              · obtain ⟨v5, w5, hr5, hlp5⟩ := hlp.zero (by rw [hlen]; omega)
                rw [List.append_assoc, ← List.replicate_succ'] at hlp5
                have d1 : (((X.length + j : Nat) : Int) % 8 == 0) = false := by simp; omega
                have d2 : (((X.length + j : Nat) : Int) % 8 != 0) = true := by simp; omega
                have HR5 := hid hr5
                have HL5 := hid hlp5
                have HSL := hid (hlp5.form)
                clear hr5 hlp5 hlp hlen
                obtain ⟨n5, hn5⟩ : ∃ n5, X.length + j = n5 := ⟨_, rfl⟩
                rw [hn5] at d1 d2 HR5 ⊢
                have HN5 := hid hn5
                have hb5 : (n5 : Int) ≤ 4294967295 := by omega
                clear hn5
                go_wp2_with (at_builtin; refine wpList_app _ rfl _ _ _ _ rfl _ _ rfl rfl v5 w5 HR5.out ?_)
                go_roundw
                case rel => exact ⟨j + 1, by omega, HL5.out⟩
                case measure =>
                  obtain ⟨y1, y2, y3⟩ := HSL.out
                  rw [y3]
                  have := HN5.out
                  simp only [sliceLen, List.length_append, List.length_replicate]
                  omega
              · obtain rfl : j = P := by omega
                have d1 : (((X.length + j : Nat) : Int) % 8 == 0) = true := by simp; omega
                have d2 : (((X.length + j : Nat) : Int) % 8 != 0) = false := by simp; omega
                have c0 := hlp.cells 0
                have c1 := hlp.cells 1
                have c3 := hlp.cells 3
                have zb := hlp.lt
                simp only [List.getElem?_toArray, List.getElem?_cons_zero, List.getElem?_cons_succ] at c0 c1 c3
                have HLP := hid hlp
                clear hlp
                clear hlen
                obtain ⟨n5, hn5⟩ : ∃ n5, X.length + j = n5 := ⟨_, rfl⟩
                rw [hn5] at d1 d2 ⊢
                have HN5 := hid hn5
                have hb5 : (n5 : Int) ≤ 4294967295 := by omega
                clear hn5
                have HLQ : Hid (Lp wP wo.heap.size #[.int .i64 kind, .int .i64 tag, .string bytes, .slice xa rm xc] (.slice va n5 vcp) (X ++ List.replicate j 0 ++ cloB kind tag) wi) := hid (by have := HLP.out; rw [HCLO.out, List.append_nil]; rw [HN5.out] at this; exact this)
                go_wp2_with fail
                obtain ⟨Y, hY⟩ : ∃ Y, X ++ List.replicate j 0 ++ cloB kind tag = Y := ⟨_, rfl⟩
                rw [hY] at HLQ
                have HY := hid hY
                have hYl : Y.length ≤ X.length + j + 8 := by rw [← hY, HCLO.out]; simp only [List.length_append, List.length_replicate, Hp.le_length, List.length_nil]; omega
                clear hY d1 d2
                go_loopw [12, 15] (fun v i ww => ∃ q : Nat, q ≤ rm ∧ i = .int .i64 (q : Int) ∧ Lp wP wo.heap.size #[.int .i64 kind, .int .i64 tag, .string bytes, .slice xa rm xc] v (Y ++ refsB ps (refs.take q)) ww) (fun _ i _ => rm - (intOf i).toNat)
                case atStart => exact ⟨0, Nat.zero_le _, rfl, by have := HLQ.out; simpa [refsB] using this⟩
                case round =>
                  obtain ⟨q, hq, rfl, hlp⟩ := hrel
                  clear HLP HLQ
                  have e3 := hlp.cells 3
                  have ez := hlp.lt
                  simp only [List.getElem?_toArray, List.getElem?_cons_zero, List.getElem?_cons_succ] at e3
                  by_cases hq2 : q < rm
                  · have hql : q < refs.length := by have := HRMM.out; omega
                    obtain ⟨xg, xo, rfl, hxg, hxcell⟩ := HXAT.out (by omega)
                    obtain ⟨p0, p1⟩ := ref_cells hxcell q hql
                    have htq := HTNP2.out.then hlp.mkd.tn
                    rw [← htq.cell hxg (fun e => e)] at p0 p1
                    have hxgl : xg < wr.heap.size := Nat.lt_of_lt_of_le hxg htq.size
                    have hcw := HW2.out _ (List.getElem_mem hql)
                    have hsu := refsB_succ ps hql
                    have hwp := HWB.out refs[q]
                    obtain ⟨r, hrr⟩ : ∃ r, refs[q] = r := ⟨_, rfl⟩
                    rw [hrr] at p0 p1 hcw hsu hwp
                    obtain ⟨rk, rn'⟩ := r
                    simp only at p0 p1 hcw
                    obtain ⟨x, hx⟩ : ∃ x : Nat, wordR ps (rk, rn') = (x : Int) := ⟨(wordR ps (rk, rn')).toNat, by omega⟩
                    rw [hx] at hcw hsu hwp
                    rw [Int.toNat_natCast] at hsu
                    have hxb : x < 18446744073709551616 := by omega
                    have hll : (Y ++ refsB ps (refs.take q)).length ≤ 4294967000 := by
                      simp only [List.length_append, refsB_length, List.length_take]
                      omega
                    have HCW : Hid (Calls Try.prog 44 #[.agg #[.int .i64 rk, .int .i64 rn'], .slice pa m pc] wr fun e w' => e = .returned (.int .u64 (x : Int)) ∧ Tn No wr w') := hid (hcw wr hlp.mkd.tn)
                    have HPU : Hid (∀ u, Tn No wr u → Calls Try.prog 43 #[.int .u64 (x : Int)] u fun e w' => ∃ g c, e = .returned (.slice (some ⟨g, 0, none⟩) 8 c) ∧ ∃ v' w'', (Builtin.append_ #[40, 40] 40 #[u12, .slice (some ⟨g, 0, none⟩) 8 c]).run Try.prog w' = .ok v' w'' ∧ Lp wP wo.heap.size #[.int .i64 kind, .int .i64 tag, .string bytes, .slice (some ⟨xg, xo, none⟩) rm xc] v' (Y ++ refsB ps (refs.take (q + 1))) w'') := hid (fun u t => (hlp.word x _ rfl hxb hll u t).mono (fun e w' ⟨g9, c9, he, v', w'', hr9, hl9⟩ => ⟨g9, c9, he, v', w'', hr9, by rw [List.append_assoc, ← hsu] at hl9; exact hl9⟩))
                    have hqi : (q : Int) < (rm : Int) := by omega
                    clear hcw hsu hwp hx hll hxcell hrr hql hlp htq HXAT HW2
                    go_wp2_with (first
                      | (go_at_call 44; refine HCW.out.mono ?_; rintro e w7 ⟨rfl, t7⟩; have HT7 := hid t7; clear t7)
                      | (go_at_call 43; refine (HPU.out _ HT7.out).mono ?_; rintro e w8 ⟨g8, c8, rfl, v8, w8b, hr8, hlp8⟩; have HR8 := hid hr8; have HL8 := hid hlp8; clear hr8 hlp8)
                      | (at_builtin; refine wpList_app _ rfl _ _ _ _ rfl _ _ rfl rfl v8 w8b HR8.out ?_))
                    go_roundw
                    case rel => exact ⟨q + 1, by omega, by go_num, HL8.out⟩
                    case measure => simp [intOf]; omega
                  · obtain rfl : q = rm := by omega
                    have HLP := hid hlp
                    clear hlp
                    go_wp2_with fail
                    go_roundw
                    case rel =>
                      refine ⟨k + 1, by omega, by go_num, ?_⟩
                      have h1 := HLP.out.mkd
                      have e1 : refs.take q = refs := List.take_of_length_le (by have := HRMM.out; omega)
                      rw [e1, ← HY.out, ← HX.out, ← HPAD.out] at h1
                      rw [HLS.out, HBR.out]
                      simpa only [List.append_assoc] using h1
                    case measure => simp [intOf]; omega
        · obtain rfl : m = k := by omega
          have e1 : ts.take m = ts := List.take_of_length_le (by have := HM.out; omega)
          rw [e1] at hmk
          obtain ⟨ba, bc9, hbf, _⟩ := hmk.lr.rw.form
          obtain ⟨bn, hbn⟩ : ∃ bn, (layR ps ts).length = bn := ⟨_, rfl⟩
          rw [hbn] at hbf
          subst hbf
          have HBY := hid hmk
          have HTW := hid (HTNP.out.then hmk.tn)
          have HPL2 := hid (HPL.out.no hmk.tn)
          have HMK2 : Hid (Mk 1 eU wo (.slice none 0 0) ([] : List Int) wo) := hid ⟨LR.nil _ _ _, Tn.refl _ _, fun g hg => by cases hg⟩
          clear hmk e1 hbn HAT HTA HH HHB HW HMB HTOT HPL HTNP g0 g1 g2 HPLN
          go_wp2_with fail
          go_loopw [16, 17] (fun v i wr => ∃ j : Nat, j ≤ rn ∧ i = .int .i64 (j : Int) ∧ Mk 1 eU wo v ((rs.take j).map (wordR ps)) wr) (fun _ i _ => rn - (intOf i).toNat)
          case atStart => exact ⟨0, by omega, rfl, HMK2.out⟩
          case round =>
            obtain ⟨j, hj, rfl, hmk⟩ := hrel
            clear HMK2
            have y1 : wr.cell? ⟨w.heap.size, 1, none⟩ = some (.slice ra rn rc) := by rw [hmk.tn.cell b2 (fun e => e)]; exact b1
            have y2 : w.heap.size < wr.heap.size := Nat.lt_of_lt_of_le b2 hmk.tn.size
            by_cases hlt : j < rn
            · have hjl : j < rs.length := by have := HRN.out; omega
              obtain ⟨g, o, rfl, hg, hcell⟩ := HRAT.out (by omega)
              obtain ⟨p0, p1⟩ := ref_cells hcell j hjl
              have htw := HTW.out.then hmk.tn
              rw [← htw.cell hg (fun e => e)] at p0 p1
              have hgl : g < wr.heap.size := Nat.lt_of_lt_of_le hg htw.size
              have hcv := HVR.out j _ (List.getElem?_eq_getElem hjl) (.slice pa m pc) wr (HPL2.out.no hmk.tn)
              have hms := map_take_succ (wordR ps) hjl
              obtain ⟨r, hrr⟩ : ∃ r, rs[j] = r := ⟨_, rfl⟩
              rw [hrr] at p0 p1 hcv hms
              obtain ⟨rk, rx⟩ := r
              simp only at p0 p1 hcv
              obtain ⟨x, hx⟩ : ∃ x, wordR ps (rk, rx) = x := ⟨_, rfl⟩
              rw [hx] at hcv hms
              have HCV := hid hcv
              have HAP : Hid (∀ u, Tn No wr u → ∃ v' w', (Builtin.append_ #[41, 41] 41 #[u16, .slice (some ⟨u.heap.size, 0, none⟩) 1 1]).run Try.prog (u.alloc (.cells #[.int .u64 x] 29)) = .ok v' w' ∧ Mk 1 eU wo v' ((rs.take (j + 1)).map (wordR ps)) w') := hid (fun u t => by
                have hmk2 := (hmk.no t).no ((Tn.refl No u).alloc (.cells #[.int .u64 x] 29))
                obtain ⟨v', w', hr, hlr, hou⟩ := lu_push hmk2.lr x u.heap.size (by rw [World.cell?_alloc_new]; rfl) (by simp; omega)
                rw [← hms] at hlr
                exact ⟨v', w', hr, hmk2.step hlr hou⟩)
              have hji : (j : Int) < (rn : Int) := by omega
              clear hcell htw hcv hms hrr hx hjl hmk HRAT HVR
              go_wp2_with (first
                | (go_at_call 44; refine HCV.out.mono ?_; rintro e w7 ⟨rfl, t7⟩; obtain ⟨v8, w8, hr8, hm8⟩ := HAP.out _ t7; have HR8 := hid hr8; have HM8 := hid hm8; clear t7 hr8 hm8)
                | (at_builtin; refine wpList_app _ rfl _ _ _ _ rfl _ _ rfl rfl v8 w8 HR8.out ?_))
              go_roundw
              case rel => exact ⟨j + 1, by omega, by go_num, HM8.out⟩
              case measure => simp [intOf]; omega
            · obtain rfl : rn = j := by omega
              have e2 : rs.take rn = rs := List.take_of_length_le (by have := HRN.out; omega)
              rw [e2] at hmk
              have HFIN : Hid (RLayPost A ts rs w (.returned (.tuple #[.slice ba bn bc9, u16, .int .i64 0])) wr) := hid (by
                refine .inr ⟨HPT'.out, _, _, rfl, ?_, ?_, HTW.out.then hmk.tn⟩
                · rw [HPS.out]; exact HBY.out.lr.no hmk.tn
                · rw [HPS.out]; exact hmk.lr)
              clear hmk e2 HRAT HVR
              go_wp2
              go_ret3
              exact HFIN.out
end Go.Proofs.Ytlkbnjdhokjfnaa
