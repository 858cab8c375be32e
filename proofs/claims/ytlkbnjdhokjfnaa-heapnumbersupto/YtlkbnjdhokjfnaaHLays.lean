/-
  heap: HeapLays, walked.
-/
import Derived.Test.YtlkbnjdhokjfnaaRLay
import Derived.Test.YtlkbnjdhokjfnaaHKept
import Derived.Test.YtlkbnjdhokjfnaaHBackW
namespace Go.Proofs.Ytlkbnjdhokjfnaa
set_option linter.unusedSimpArgs false
set_option linter.unusedVariables false
open Go.RowKit
attribute [local go_sem ↓] Go.wp_at_zero Go.wp_at_succ

theorem pl_size {u t : Th} (h : u.pl = t.pl) : u.size = t.size := by
  simp only [Th.pl, Pt.mk.injEq] at h
  obtain ⟨k1, k2, k3, k4⟩ := h
  simp only [Th.size, k1, k3, k4]
theorem pl_bytes {u t : Th} (ps : List Int) (h : u.pl = t.pl) : bytesR ps u = bytesR ps t := by
  simp only [Th.pl, Pt.mk.injEq] at h
  obtain ⟨k1, k2, k3, k4⟩ := h
  simp only [bytesR, k1, k2, k3, k4]
theorem pl_tot {us ts : List Th} (h : us.map Th.pl = ts.map Th.pl) : totR us = totR ts := by
  induction us generalizing ts with
  | nil => cases ts with
    | nil => rfl
    | cons t r => simp at h
  | cons u r ih => cases ts with
    | nil => simp at h
    | cons t q =>
      simp only [List.map_cons, List.cons.injEq] at h
      have := ih h.2
      simp only [totR, List.map_cons, List.sum_cons, pl_size h.1] at this ⊢
      omega
theorem pl_take {us ts : List Th} (h : us.map Th.pl = ts.map Th.pl) (i : Nat) : (us.take i).map Th.pl = (ts.take i).map Th.pl := by
  rw [List.map_take, List.map_take, h]
theorem pl_places {us ts : List Th} (at_ : Int) (h : us.map Th.pl = ts.map Th.pl) : placesR at_ us = placesR at_ ts := by
  have hl : us.length = ts.length := by have := congrArg List.length h; simpa using this
  unfold placesR
  rw [hl]
  apply List.map_congr_left
  intro i _
  rw [pl_tot (pl_take h i)]
theorem pl_lay {us ts : List Th} (ps : List Int) (h : us.map Th.pl = ts.map Th.pl) : layR ps us = layR ps ts := by
  induction us generalizing ts with
  | nil => cases ts with
    | nil => rfl
    | cons t r => simp at h
  | cons u r ih => cases ts with
    | nil => simp at h
    | cons t q =>
      simp only [List.map_cons, List.cons.injEq] at h
      have := ih h.2
      simp only [layR, List.flatMap_cons, pl_bytes ps h.1] at this ⊢
      rw [this]

/-- what both say: the error, the bytes, the roots' words -/
def layC (A : Nat) (ts : List Th) (rs : List Rf) : Int := if mayG ts rs = true then (if placeB (A : Int) (totR ts : Int) = true then 0 else 1) else 141
def layL (A : Nat) (ts : List Th) (rs : List Rf) : List UInt8 := if mayG ts rs = true ∧ placeB (A : Int) (totR ts : Int) = true then layR (placesR (A : Int) ts) ts else []
def layW (A : Nat) (ts : List Th) (rs : List Rf) : List Int := if mayG ts rs = true ∧ placeB (A : Int) (totR ts : Int) = true then rs.map (wordR (placesR (A : Int) ts)) else []
theorem lay_pl {us ts : List Th} (A : Nat) (rs : List Rf) (h : us.map Th.pl = ts.map Th.pl) : layC A us rs = layC A ts rs ∧ layL A us rs = layL A ts rs ∧ layW A us rs = layW A ts rs := by
  unfold layC layL layW
  rw [pl_may h rs, pl_tot h, pl_places (A : Int) h, pl_lay _ h]
  exact ⟨rfl, rfl, rfl⟩

def LayBoth (C : Int) (L : List UInt8) (R : List Int) (w : World) (e : Ending) (w' : World) : Prop :=
  ∃ ab cb ar cr, e = .returned (.tuple #[.slice ab L.length cb, .slice ar R.length cr, .int .i64 C]) ∧ LR 1 eB w' (.slice ab L.length cb) L ∧ LR 1 eU w' (.slice ar R.length cr) R ∧ Tn No w w'
theorem layBoth_nil (C : Int) (w w' : World) (t : Tn No w w') : LayBoth C [] [] w (.returned (.tuple #[.slice none 0 0, .slice none 0 0, .int .i64 C])) w' := ⟨none, 0, none, 0, rfl, LR.nil _ _ _, LR.nil _ _ _, t⟩
theorem layBoth_of {C : Int} {L : List UInt8} {R : List Int} {w w' : World} {bv rv : Value} (h1 : LR 1 eB w' bv L) (h2 : LR 1 eU w' rv R) (t : Tn No w w') : LayBoth C L R w (.returned (.tuple #[bv, rv, .int .i64 C])) w' := by
  obtain ⟨ab, cb, e1, _⟩ := h1.rw.form
  obtain ⟨ar, cr, e2, _⟩ := h2.rw.form
  subst e1 e2
  exact ⟨ab, cb, ar, cr, rfl, h1, h2, t⟩

section
variable {tv rv : Value} {ts : List Th} {rs : List Rf} {w : World}
theorem rlay_both (h : GA w tv rv ts rs) (A : Nat) (htot : totR ts ≤ 16777216) : Calls Try.prog 24 #[.agg #[tv, rv], .int .u64 (A : Int)] w (LayBoth (layC A ts rs) (layL A ts rs) (layW A ts rs) w) := by
  unfold layC layL layW
  cases hm : mayG ts rs with
  | false =>
    simp only [Bool.false_eq_true, if_false, false_and]
    exact (rLay_bad tv rv ts rs (A : Int) w h hm).mono (fun e w' ⟨he, t⟩ => he ▸ layBoth_nil _ _ _ t)
  | true =>
    simp only [if_true, true_and]
    by_cases hA : A % 8 = 0 ∧ A ≤ 9223372036854775808
    · refine (rLay_raw tv rv ts rs A w h hm htot hA.1 hA.2).mono ?_
      rintro e w' (⟨hp, he, t⟩ | ⟨hp, bv, rv1, he, h1, h2, t⟩)
      · rw [hp, he]
        simp only [Bool.false_eq_true, if_false]
        exact layBoth_nil _ _ _ t
      · rw [hp, he]
        simp only [if_true]
        exact layBoth_of h1 h2 t
    · have hp : placeB (A : Int) (totR ts : Int) = false := by
        simp only [placeB, decide_eq_false_iff_not]; omega
      rw [hp]
      simp only [Bool.false_eq_true, if_false]
      exact (rLay_arg tv rv ts rs A w h hm hA).mono (fun e w' ⟨he, t⟩ => he ▸ layBoth_nil _ _ _ t)
theorem lay_both (h : GA w tv rv ts rs) (A : Nat) (hA : A ≤ 18446744073709551615) (htot : totR ts ≤ 16777216) : Calls Try.prog 25 #[.agg #[tv, rv], .int .u64 (A : Int)] w (LayBoth (layC A ts rs) (layL A ts rs) (layW A ts rs) w) := by
  unfold layC layL layW
  cases hm : mayG ts rs with
  | false =>
    simp only [Bool.false_eq_true, if_false, false_and]
    exact (lay_bad (A : Int) tv rv ts rs w h (by omega) (by omega) (by omega) hm).mono (fun e w' ⟨he, t⟩ => he ▸ layBoth_nil _ _ _ t)
  | true =>
    simp only [if_true, true_and]
    cases hp : placeB (A : Int) (totR ts : Int) with
    | false =>
      simp only [Bool.false_eq_true, if_false]
      exact (lay_place (A : Int) tv rv ts rs w h (by omega) (by omega) (by omega) hm (fun e => by rw [hp] at e; cases e.1)).mono (fun e w' ⟨he, t⟩ => he ▸ layBoth_nil _ _ _ t)
    | true =>
      simp only [if_true]
      refine (lay_ok (A : Int) tv rv ts rs w h (by omega) (by omega) hm hp (by omega)).mono ?_
      rintro e w' ⟨bv, rv1, he, hl⟩
      rw [he]
      exact layBoth_of hl.bytes hl.roots hl.tn
end

/-- x in memory of its own beside g -/
structure LyA (w : World) (tv rv xt xr : Value) (ts us : List Th) (rs : List Rf) (b c5 : Nat) (u : World) : Prop where
  ga : GA u tv rv ts rs
  gx : GA u xt xr us rs
  mks : Marks u xr us rs
  cb : TwoC b tv rv u
  cx : TwoC c5 xt xr u
  tn : Tn No w u
theorem LyA.no {w : World} {tv rv xt xr : Value} {ts us : List Th} {rs : List Rf} {b c5 : Nat} {u u' : World} (h : LyA w tv rv xt xr ts us rs b c5 u) (t : Tn No u u') : LyA w tv rv xt xr ts us rs b c5 u' :=
  ⟨h.ga.no t, h.gx.no t, h.mks.no t, h.cb.no t, h.cx.no t, h.tn.then t⟩

theorem eqG_pl {us ts : List Th} (h : us.map Th.pl = ts.map Th.pl) (rs : List Rf) : eqG us ts rs rs = true := by
  simp [eqG, h]

set_option maxHeartbeats 8000000 in
set_option maxRecDepth 100000 in
theorem lays_walk (tv rv : Value) (ts : List Th) (rs : List Rf) (A : Nat) (w : World) (h : GA w tv rv ts rs) (htot : totR ts ≤ 16777216) (hA : A ≤ 18446744073709551615) :
    Calls Try.prog 5 #[.agg #[tv, rv], .int .u64 (A : Int)] w fun e w' => e = .returned (.bool true) ∧ Tn No w w' := by
  have tB : Tn No w (w.alloc (.cells #[tv, rv] 27)) := (Tn.refl No w).alloc _
  have HOW : Hid (Calls Try.prog 16 #[.agg #[tv, rv]] (w.alloc (.cells #[tv, rv] 27)) fun e w1 => ∃ (a1 : Option Addr) (n1 c1 : Nat) (a2 : Option Addr) (n2 c2 : Nat) (us : List Th), e = .returned (.agg #[.slice a1 n1 c1, .slice a2 n2 c2]) ∧ TwoC w.heap.size tv rv w1 ∧ us.map Th.pl = ts.map Th.pl ∧ LyA w tv rv (.slice a1 n1 c1) (.slice a2 n2 c2) ts us rs w.heap.size w1.heap.size (w1.alloc (.cells #[.slice a1 n1 c1, .slice a2 n2 c2] 27))) := hid ((own_raw tv rv ts rs _ (h.no tB)).mono (fun e w1 ⟨a1, n1, c1, a2, n2, c2, us, he, ho⟩ => by
    have t1 : Tn No w1 (w1.alloc (.cells #[.slice a1 n1 c1, .slice a2 n2 c2] 27)) := (Tn.refl No w1).alloc _
    have c0 := (twoC_new w tv rv 27).no ho.tn
    exact ⟨a1, n1, c1, a2, n2, c2, us, he, c0, ho.pl, ⟨h.no ((tB.then ho.tn).then t1), ho.go.ga.no t1, ho.marks.no t1, c0.no t1, twoC_new w1 _ _ _, (tB.then ho.tn).then t1⟩⟩))
  obtain ⟨C, hC⟩ : ∃ C, layC A ts rs = C := ⟨_, rfl⟩
  obtain ⟨L, hL⟩ : ∃ L, layL A ts rs = L := ⟨_, rfl⟩
  obtain ⟨R, hR⟩ : ∃ R, layW A ts rs = R := ⟨_, rfl⟩
  have hRl : R.length ≤ 1073741824 := by
    have := h.rlen
    rw [← hR]
    unfold layW
    split
    · simpa using this
    · simp
  have hLl : L.length ≤ 16777216 := by
    rw [← hL]
    unfold layL
    split
    · rw [layR_length]; exact htot
    · simp
  have HLR : Hid (∀ xt xr us b c5 u, LyA w tv rv xt xr ts us rs b c5 u → Calls Try.prog 24 #[.agg #[tv, rv], .int .u64 (A : Int)] u (LayBoth C L R u)) := hid (fun xt xr us b c5 u hl => by
    have := rlay_both hl.ga A htot
    rw [hC, hL, hR] at this
    exact this)
  have HLX : Hid (∀ xt xr (us : List Th) b c5 u, us.map Th.pl = ts.map Th.pl → LyA w tv rv xt xr ts us rs b c5 u → Calls Try.prog 25 #[.agg #[xt, xr], .int .u64 (A : Int)] u (LayBoth C L R u)) := hid (fun xt xr us b c5 u hp hl => by
    have := lay_both hl.gx A hA (by rw [pl_tot hp]; exact htot)
    obtain ⟨e1, e2, e3⟩ := lay_pl A rs hp
    rw [e1, e2, e3, hC, hL, hR] at this
    exact this)
  have HKP : Hid (∀ xt xr (us : List Th) b c5 u, us.map Th.pl = ts.map Th.pl → LyA w tv rv xt xr ts us rs b c5 u → Calls Try.prog 23 #[.agg #[xt, xr], .agg #[tv, rv]] u fun e w' => e = .returned (.bool true) ∧ Tn No u w') := hid (fun xt xr us b c5 u hp hl => (kept_raw xt xr tv rv us ts rs rs u hl.gx hl.mks hl.ga).mono (fun e w' ⟨he, t⟩ => by
    rw [eqG_pl hp rs] at he
    exact ⟨he, t⟩))
  have HKN : Hid (∀ u, Calls Try.prog 15 #[] u fun e w' => e = .returned (.bool true) ∧ Tn No u w') := hid known_raw
  obtain ⟨ra, rc, hrv, -⟩ := h.roots
  obtain ⟨ta, tc, htv, -⟩ := h.things
  obtain ⟨rn, hrn⟩ : ∃ rn, rs.length = rn := ⟨_, rfl⟩
  obtain ⟨m, hmm⟩ : ∃ m, ts.length = m := ⟨_, rfl⟩
  rw [hrn] at hrv
  rw [hmm] at htv
  subst hrv htv
  obtain ⟨ln, hln⟩ : ∃ ln, L.length = ln := ⟨_, rfl⟩
  obtain ⟨rl, hrl⟩ : ∃ rl, R.length = rl := ⟨_, rfl⟩
  have HLN := hid hln
  have HRL := hid hrl
  unfold LayBoth at HLR HLX
  rw [hln, hrl] at HLR HLX
  rw [hrl] at hRl
  rw [hln] at hLl
  clear h hrn hmm hC hL hR tB htot hln hrl
  go_enter Try.func5, Try.ntmps5
  go_wp2_with (first
    | (go_at_call 16; refine HOW.out.mono ?_; rintro e w1 ⟨a1, n1, c1, a2, n2, c2, us, rfl, ⟨p0, p1, p2⟩, hpl, hly⟩; have HLY2 := hid hly; have HPLU := hid hpl; clear hly hpl)
    | (go_at_call 24; refine (HLR.out _ _ _ _ _ _ HLY2.out).mono ?_; rintro e w3 ⟨ab, cb, ar, cr, rfl, l1, l2, t3⟩; have hly3 := HLY2.out.no t3; have HLY3 := hid hly3; have HB3 := hid l1; have HR3 := hid l2; obtain ⟨q0, q1, q2⟩ := hly3.cx; clear l1 l2 t3 hly3)
    | (go_at_call 25; refine (HLX.out _ _ _ _ _ _ HPLU.out HLY3.out).mono ?_; rintro e w4 ⟨ab', cb', ar', cr', rfl, l1, l2, t4⟩; have hly4 := HLY3.out.no t4; have HLY4 := hid hly4; have hcv := br_string l1.br; have hcv' := br_string (HB3.out.no t4).br; have HR4 := hid (HR3.out.no t4).ld; have HR5 := hid l2.ld; obtain ⟨r0, r1, r2⟩ := hly4.cx; obtain ⟨r3, r4, r5⟩ := hly4.cb; clear l1 l2 t4 hly4))
  obtain ⟨ya, yc, ye, hyc, hycm, hyat⟩ := HR4.out
  obtain ⟨za, zc, ze, hzc, hzcm, hzat⟩ := HR5.out
  simp only [Value.slice.injEq] at ye ze
  obtain ⟨rfl, -, rfl⟩ := ye
  obtain ⟨rfl, -, rfl⟩ := ze
  have HYAT := hid hyat
  have HZAT := hid hzat
  rw [HRL.out] at hyc hzc
  clear hyat hzat HR4 HR5 HR3 HB3 HLY3 HLY2 HLR HLX HOW hcv hcv' p0 p1 p2 q0 q1 q2 r0 r1 r2 r3 r4 r5
  go_loopw [12] (fun i wr => ∃ k : Nat, k ≤ rl ∧ i = .int .i64 (k : Int) ∧ Tn No w4 wr) (fun i _ => rl - (intOf i).toNat)
  case atStart => exact ⟨0, by omega, rfl, Tn.refl _ _⟩
  case round =>
    obtain ⟨k, hk, rfl, ht⟩ := hrel
    by_cases hlt : k < rl
    · have hkl : k < R.length := by have := HRL.out; omega
      obtain ⟨g, o, rfl, hg, hcell⟩ := HYAT.out (by omega)
      obtain ⟨g', o', rfl, hg', hcell'⟩ := HZAT.out (by omega)
      have q0 := hcell k hkl 0 (by omega)
      have q1 := hcell' k hkl 0 (by omega)
      rw [← ht.cell hg (fun e => e)] at q0
      rw [← ht.cell hg' (fun e => e)] at q1
      simp only [eU, List.getElem?_cons_zero, Nat.mul_one, Nat.add_zero] at q0 q1
      generalize R[k] = x at *
      have hb1 : g < wr.heap.size := Nat.lt_of_lt_of_le hg ht.size
      have hb2 : g' < wr.heap.size := Nat.lt_of_lt_of_le hg' ht.size
      have HT : Hid (∀ q, Tn No w4 (wr.drewN q)) := hid (fun q => ht.drewN q)
      have hki : (k : Int) < (rl : Int) := by omega
      clear hcell hcell' HYAT HZAT ht hkl
      go_wp2_with fail
      go_quiet (fail)
      go_wp2_with fail
      go_roundw
      case rel => exact ⟨k + 1, by omega, by go_num, HT.out _⟩
      case measure => simp [intOf]; omega
    · obtain rfl : k = rl := by omega
      have hly := HLY4.out.no ht
      have HLY5 := hid hly
      obtain ⟨r0, r1, r2⟩ := hly.cx
      obtain ⟨r3, r4, r5⟩ := hly.cb
      clear hly ht HYAT HZAT
      go_wp2_with (first
        | (go_at_call 23; refine (HKP.out _ _ _ _ _ _ HPLU.out HLY5.out).mono ?_; rintro e w6 ⟨rfl, t6⟩; have HT6 := hid t6; clear t6)
        | (go_at_call 15; refine (HKN.out _).mono ?_; rintro e w7 ⟨rfl, t7⟩; have HT7 := hid t7; clear t7))
      go_ret
      exact ⟨rfl, (HLY5.out.tn.then HT6.out).then HT7.out⟩
end Go.Proofs.Ytlkbnjdhokjfnaa
