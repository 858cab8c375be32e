/-
  heap: HeapNumbers, walked.
-/
import Derived.Test.YtlkbnjdhokjfnaaRSame
import Derived.Test.YtlkbnjdhokjfnaaHSpoil
import Derived.Test.YtlkbnjdhokjfnaaHLays
namespace Go.Proofs.Ytlkbnjdhokjfnaa
set_option linter.unusedSimpArgs false
set_option linter.unusedVariables false
open Go.RowKit
attribute [local go_sem ↓] Go.wp_at_zero Go.wp_at_succ

theorem TwoC.tn {F : Nat → Prop} {b : Nat} {tv rv : Value} {u u' : World} (h : TwoC b tv rv u) (t : Tn F u u') (hn : ¬ F b) : TwoC b tv rv u' := ⟨by rw [t.cell h.2.2 hn]; exact h.1, by rw [t.cell h.2.2 hn]; exact h.2.1, Nat.lt_of_lt_of_le h.2.2 t.size⟩

/-- what is handed in, what is one's own of it, what the reference says -/
structure Ny (w : World) (gt gr ht hr xt xr yt yr wt wv : Value) (ts ts' us us' wo : List Th) (rs rs' wros : List Rf) (b c5 c6 c7 : Nat) (u : World) : Prop where
  g : GA u gt gr ts rs
  h : GA u ht hr ts' rs'
  x : GA u xt xr us rs
  y : GA u yt yr us' rs'
  mx : Marks u xr us rs
  my : Marks u yr us' rs'
  wa : GA u wt wv wo wros
  cg : TwoC b gt gr u
  ch : TwoC (b + 1) ht hr u
  cx : TwoC c5 xt xr u
  cy : TwoC c6 yt yr u
  cw : TwoC c7 wt wv u
  tn : Tn No w u
section
variable {w : World} {gt gr ht hr xt xr yt yr wt wv : Value} {ts ts' us us' wo : List Th} {rs rs' wros : List Rf} {b c5 c6 c7 : Nat} {u u' : World}
theorem Ny.no (h : Ny w gt gr ht hr xt xr yt yr wt wv ts ts' us us' wo rs rs' wros b c5 c6 c7 u) (t : Tn No u u') : Ny w gt gr ht hr xt xr yt yr wt wv ts ts' us us' wo rs rs' wros b c5 c6 c7 u' :=
  ⟨h.g.no t, h.h.no t, h.x.no t, h.y.no t, h.mx.no t, h.my.no t, h.wa.no t, h.cg.no t, h.ch.no t, h.cx.no t, h.cy.no t, h.cw.no t, h.tn.then t⟩
end

/-- cells that the first guard reads -/
def Ny6 (b c5 c7 c9 : Nat) (gt gr xt xr wt wv at' ar : Value) (u : World) : Prop :=
  (u.cell? ⟨b, 0, none⟩ = some gt ∧ u.cell? ⟨b, 1, none⟩ = some gr ∧ b < u.heap.size) ∧ (u.cell? ⟨c5, 0, none⟩ = some xt ∧ u.cell? ⟨c5, 1, none⟩ = some xr ∧ c5 < u.heap.size) ∧ (u.cell? ⟨c7, 0, none⟩ = some wt ∧ u.cell? ⟨c7, 1, none⟩ = some wv ∧ c7 < u.heap.size) ∧ (u.cell? ⟨c9, 0, none⟩ = some at' ∧ u.cell? ⟨c9, 1, none⟩ = some ar ∧ c9 < u.heap.size)
/-- cells that the last guard reads -/
def Ny9 (b c5 c6 c7 c11 : Nat) (gt gr ht hr xt xr yt yr wt wv bt br : Value) (u : World) : Prop :=
  (u.cell? ⟨b, 0, none⟩ = some gt ∧ u.cell? ⟨b, 1, none⟩ = some gr ∧ b < u.heap.size) ∧ (u.cell? ⟨b + 1, 0, none⟩ = some ht ∧ u.cell? ⟨b + 1, 1, none⟩ = some hr ∧ b + 1 < u.heap.size) ∧ (u.cell? ⟨c5, 0, none⟩ = some xt ∧ u.cell? ⟨c5, 1, none⟩ = some xr ∧ c5 < u.heap.size) ∧ (u.cell? ⟨c6, 0, none⟩ = some yt ∧ u.cell? ⟨c6, 1, none⟩ = some yr ∧ c6 < u.heap.size) ∧ (u.cell? ⟨c7, 0, none⟩ = some wt ∧ u.cell? ⟨c7, 1, none⟩ = some wv ∧ c7 < u.heap.size) ∧ (u.cell? ⟨c11, 0, none⟩ = some bt ∧ u.cell? ⟨c11, 1, none⟩ = some br ∧ c11 < u.heap.size)

theorem pl_sameP {us ts us' ts' : List Th} {rs rs' : List Rf} (h : us.map Th.pl = ts.map Th.pl) (h' : us'.map Th.pl = ts'.map Th.pl) : SameP us rs us' rs' ↔ SameP ts rs ts' rs' := by
  unfold SameP
  rw [pl_may h, pl_may h', pl_nds h, pl_nds h']

set_option maxHeartbeats 16000000 in
set_option maxRecDepth 100000 in
theorem numbers_walk (gt gr ht hr : Value) (ts ts' : List Th) (rs rs' : List Rf) (w : World) (h : GA w gt gr ts rs) (h' : GA w ht hr ts' rs') :
    Calls Try.prog 4 #[.agg #[gt, gr], .agg #[ht, hr]] w fun e w' => e = .returned (.bool true) ∧ Tn No w w' := by
  obtain ⟨wB, hwB⟩ : ∃ wB, (w.alloc (.cells #[gt, gr] 27)).alloc (.cells #[ht, hr] 27) = wB := ⟨_, rfl⟩
  have tB : Tn No w wB := by rw [← hwB]; exact ((Tn.refl No w).alloc _).alloc _
  have k0 : TwoC w.heap.size gt gr wB := by rw [← hwB]; exact (twoC_new w gt gr _).no ((Tn.refl No _).alloc _)
  have k1 : TwoC (w.heap.size + 1) ht hr wB := by
    have := twoC_new (w.alloc (.cells #[gt, gr] 27)) ht hr 27
    rw [hwB] at this
    simpa using this
  obtain ⟨E, hE⟩ : ∃ E : Int, cond (mayG ts rs) 0 141 = E := ⟨_, rfl⟩
  have HO1 : Hid (Calls Try.prog 16 #[.agg #[gt, gr]] wB fun e w1 => ∃ (a1 : Option Addr) (n1 j1 : Nat) (a2 : Option Addr) (n2 j2 : Nat) (us : List Th), e = .returned (.agg #[.slice a1 n1 j1, .slice a2 n2 j2]) ∧ TwoC (w.heap.size + 1) ht hr w1 ∧ OwnG wB (.slice a1 n1 j1) (.slice a2 n2 j2) ts rs us w1) := hid ((own_raw gt gr ts rs wB (h.no tB)).mono (fun e w1 ⟨a1, n1, j1, a2, n2, j2, us, he, ho⟩ => ⟨a1, n1, j1, a2, n2, j2, us, he, k1.no ho.tn, ho⟩))
  have HO2 : Hid (∀ w1 x y, Tn No wB w1 → Calls Try.prog 16 #[.agg #[ht, hr]] (w1.alloc (.cells #[x, y] 27)) fun e w3 => ∃ (a1 : Option Addr) (n1 j1 : Nat) (a2 : Option Addr) (n2 j2 : Nat) (us : List Th), e = .returned (.agg #[.slice a1 n1 j1, .slice a2 n2 j2]) ∧ TwoC w.heap.size gt gr w3 ∧ OwnG (w1.alloc (.cells #[x, y] 27)) (.slice a1 n1 j1) (.slice a2 n2 j2) ts' rs' us w3) := hid (fun w1 x y t => (own_raw ht hr ts' rs' _ (h'.no ((tB.then t).alloc _))).mono (fun e w3 ⟨a1, n1, j1, a2, n2, j2, us, he, ho⟩ => ⟨a1, n1, j1, a2, n2, j2, us, he, ((k0.no t).no ((Tn.refl No w1).alloc _)).no ho.tn, ho⟩))
  have HCR : Hid (∀ w3 x y, Tn No wB w3 → Calls Try.prog 17 #[.agg #[gt, gr]] (w3.alloc (.cells #[x, y] 27)) fun e w5 => ∃ a1 n1 j1 a2 n2 j2 out ros, e = .returned (.tuple #[.agg #[.slice a1 n1 j1, .slice a2 n2 j2], .int .i64 E]) ∧ CnV ts rs (w3.alloc (.cells #[x, y] 27)) (.slice a1 n1 j1) (.slice a2 n2 j2) out ros w5) := hid (fun w3 x y t => by
    have := rcanon_any (h.no ((tB.then t).alloc (.cells #[x, y] 27)))
    unfold CanonAny at this
    rw [hE] at this
    exact this)
  -- everything older than the program's answers
  have HNY : Hid (∀ w1 w3 w5 xt xr yt yr wt wv us us' wo wros, OwnG wB xt xr ts rs us w1 → OwnG (w1.alloc (.cells #[xt, xr] 27)) yt yr ts' rs' us' w3 → CnV ts rs (w3.alloc (.cells #[yt, yr] 27)) wt wv wo wros w5 → Ny w gt gr ht hr xt xr yt yr wt wv ts ts' us us' wo rs rs' wros w.heap.size w1.heap.size w3.heap.size w5.heap.size (w5.alloc (.cells #[wt, wv] 27)) ∧ TwoC w1.heap.size xt xr w5) := hid (fun w1 w3 w5 xt xr yt yr wt wv us us' wo wros o1 o2 c => by
    have t5 : Tn No w5 (w5.alloc (.cells #[wt, wv] 27)) := (Tn.refl No w5).alloc _
    have t35 : Tn No w3 (w5.alloc (.cells #[wt, wv] 27)) := (((Tn.refl No w3).alloc _).then c.tn).then t5
    have t15 : Tn No w1 (w5.alloc (.cells #[wt, wv] 27)) := (((Tn.refl No w1).alloc _).then o2.tn).then t35
    have tB5 := o1.tn.then t15
    have t13' : Tn No (w1.alloc (.cells #[xt, xr] 27)) w5 := (o2.tn.alloc _).then c.tn
    exact ⟨⟨h.no (tB.then tB5), h'.no (tB.then tB5), o1.go.ga.no t15, o2.go.ga.no t35, o1.marks.no t15, o2.marks.no t35, c.go.ga.no t5, k0.no tB5, k1.no tB5, ((twoC_new w1 xt xr _).no t13').no t5, ((twoC_new w3 yt yr _).no c.tn).no t5, twoC_new w5 wt wv _, tB.then tB5⟩, (twoC_new w1 xt xr _).no t13'⟩)
  have HCX : Hid (∀ xt xr (us : List Th) u, us.map Th.pl = ts.map Th.pl → GA u xt xr us rs → Calls Try.prog 18 #[.agg #[xt, xr]] u fun e w5 => ∃ a1 n1 j1 a2 n2 j2 out ros, e = .returned (.tuple #[.agg #[.slice a1 n1 j1, .slice a2 n2 j2], .int .i64 E]) ∧ CnV us rs u (.slice a1 n1 j1) (.slice a2 n2 j2) out ros w5) := hid (fun xt xr us u hp hg => by
    have := canon_any hg
    unfold CanonAny at this
    rw [pl_may hp rs, hE] at this
    exact this)
  have HKN : Hid (∀ u, Calls Try.prog 15 #[] u fun e w' => e = .returned (.bool true) ∧ Tn No u w') := hid known_raw
  obtain ⟨ra, rc, hrv, -⟩ := h.roots
  obtain ⟨ta, tc, htv, -⟩ := h.things
  obtain ⟨ra', rc', hrv', -⟩ := h'.roots
  obtain ⟨ta', tc', htv', -⟩ := h'.things
  obtain ⟨rn, hrn⟩ : ∃ rn, rs.length = rn := ⟨_, rfl⟩
  obtain ⟨m, hmm⟩ : ∃ m, ts.length = m := ⟨_, rfl⟩
  obtain ⟨rn', hrn'⟩ : ∃ rn, rs'.length = rn := ⟨_, rfl⟩
  obtain ⟨m', hmm'⟩ : ∃ m, ts'.length = m := ⟨_, rfl⟩
  rw [hrn] at hrv
  rw [hmm] at htv
  rw [hrn'] at hrv'
  rw [hmm'] at htv'
  subst hrv htv hrv' htv'
  have HE := hid hE
  clear h h' hrn hmm hrn' hmm' tB k0 k1 hE
  subst hwB
  go_enter Try.func4, Try.ntmps4
  go_wp2_with (first
    | (go_at_call 18; refine (HCX.out _ _ us _ HOX.out.pl (HNY8.out.x.no (HV9.out.tn.alloc _))).mono ?_; rintro e w11 ⟨a9, n9, j9, a10, n10, j10, bo, bros, rfl, hv11⟩; have HV11 := hid hv11; clear hv11)
    | (go_at_call 18; refine (HCX.out _ _ us _ HOX.out.pl HNY8.out.x).mono ?_; rintro e w9 ⟨a7, n7, j7, a8, n8, j8, ao, aros, rfl, hv9⟩; have HV9 := hid hv9; obtain ⟨v0, v1, v2⟩ := (HNY8.out.no hv9.tn).cx; clear hv9)
    | (go_at_call 17; refine (HCR.out w3 _ _ HT3.out).mono ?_; rintro e w5 ⟨a5, n5, j5, a6, n6, j6, wo, wros, rfl, hv5⟩; have hny := HNY.out _ _ _ _ _ _ _ _ _ _ _ _ _ HOX.out HOY.out hv5; have HNY8 := hid hny.1; have HV5 := hid hv5; obtain ⟨s0, s1, s2⟩ := hny.2; clear hny hv5)
    | (go_at_call 16; refine (HO2.out w1 _ _ HOX.out.tn).mono ?_; rintro e w3 ⟨a3, n3, j3, a4, n4, j4, us', rfl, ⟨y0, y1, y2⟩, ho2⟩; have HOY := hid ho2; have HT3 := hid ((HOX.out.tn.alloc _).then ho2.tn); clear ho2)
    | (go_at_call 16; refine HO1.out.mono ?_; rintro e w1 ⟨a1, n1, j1, a2, n2, j2, us, rfl, ⟨x0, x1, x2⟩, ho1⟩; have HOX := hid ho1; clear ho1))
  obtain ⟨W12, hW12⟩ : ∃ W12, w11.alloc (.cells #[.slice a9 n9 j9, .slice a10 n10 j10] 27) = W12 := ⟨_, rfl⟩
  have t12 : Tn No w11 W12 := by rw [← hW12]; exact (Tn.refl No w11).alloc _
  have t912 : Tn No w9 W12 := (((Tn.refl No w9).alloc _).then HV11.out.tn).then t12
  have hny12 := HNY8.out.no (HV9.out.tn.then t912)
  have hc9 : TwoC w9.heap.size (.slice a7 n7 j7) (.slice a8 n8 j8) W12 := ((twoC_new w9 _ _ _).no HV11.out.tn).no t12
  have hc11 : TwoC w11.heap.size (.slice a9 n9 j9) (.slice a10 n10 j10) W12 := by rw [← hW12]; exact twoC_new w11 _ _ _
  have HPX := hid HOX.out.pl
  have HPY := hid HOY.out.pl
  have hEX : cond (mayG us rs) 0 141 = E := by rw [pl_may HPX.out rs]; exact HE.out
  have HN6 : ∀ u, Tn No W12 u → Ny6 w.heap.size w1.heap.size w5.heap.size w9.heap.size (.slice ta m tc) (.slice ra rn rc) (.slice a1 n1 j1) (.slice a2 n2 j2) (.slice a5 n5 j5) (.slice a6 n6 j6) (.slice a7 n7 j7) (.slice a8 n8 j8) u := fun u t => ⟨(hny12.no t).cg, (hny12.no t).cx, (hny12.no t).cw, hc9.no t⟩
  have HEQ6 : Hid (∀ u u', Tn No W12 u → Tn No u u' → Calls Try.prog 19 #[.agg #[.slice a7 n7 j7, .slice a8 n8 j8], .agg #[.slice a5 n5 j5, .slice a6 n6 j6]] u' fun e w' => e = .returned (.bool true) ∧ Ny6 w.heap.size w1.heap.size w5.heap.size w9.heap.size (.slice ta m tc) (.slice ra rn rc) (.slice a1 n1 j1) (.slice a2 n2 j2) (.slice a5 n5 j5) (.slice a6 n6 j6) (.slice a7 n7 j7) (.slice a8 n8 j8) w' ∧ Tn No W12 w') := hid (fun u u' t t' => (rEqual_raw _ _ _ _ _ _ _ _ u' (HV9.out.go.ga.no (t912.then (t.then t'))) (hny12.wa.no (t.then t'))).mono (fun e w' ⟨he, tn⟩ => by
    rw [cnv_eq (pl_nds HPX.out) (pl_may HPX.out rs) HV9.out HV5.out] at he
    exact ⟨he, HN6 _ ((t.then t').then tn), (t.then t').then tn⟩))
  have HCK6 : Hid (∀ u u', Tn No W12 u → Tn No u u' → Calls Try.prog 13 #[.agg #[.slice a1 n1 j1, .slice a2 n2 j2]] u' fun e w' => e = .returned (.int .i64 E) ∧ Ny6 w.heap.size w1.heap.size w5.heap.size w9.heap.size (.slice ta m tc) (.slice ra rn rc) (.slice a1 n1 j1) (.slice a2 n2 j2) (.slice a5 n5 j5) (.slice a6 n6 j6) (.slice a7 n7 j7) (.slice a8 n8 j8) w' ∧ Tn No W12 w') := hid (fun u u' t t' => (check_raw _ _ _ _ u' (hny12.x.no (t.then t'))).mono (fun e w' ⟨he, tn⟩ => by
    rw [hEX] at he
    exact ⟨he, HN6 _ ((t.then t').then tn), (t.then t').then tn⟩))
  have HCR6 : Hid (∀ u u', Tn No W12 u → Tn No u u' → Calls Try.prog 14 #[.agg #[.slice ta m tc, .slice ra rn rc]] u' fun e w' => e = .returned (.int .i64 E) ∧ Ny6 w.heap.size w1.heap.size w5.heap.size w9.heap.size (.slice ta m tc) (.slice ra rn rc) (.slice a1 n1 j1) (.slice a2 n2 j2) (.slice a5 n5 j5) (.slice a6 n6 j6) (.slice a7 n7 j7) (.slice a8 n8 j8) w' ∧ Tn No W12 w') := hid (fun u u' t t' => (rCheck_raw _ _ _ _ u' (hny12.g.no (t.then t'))).mono (fun e w' ⟨he, tn⟩ => by
    rw [HE.out] at he
    exact ⟨he, HN6 _ ((t.then t').then tn), (t.then t').then tn⟩))
  have HSPO : Hid (∀ u, Tn No W12 u → Calls Try.prog 20 #[.agg #[.slice a7 n7 j7, .slice a8 n8 j8]] u fun e w' => e = .returned (.tuple #[]) ∧ Ny9 w.heap.size w1.heap.size w3.heap.size w5.heap.size w11.heap.size (.slice ta m tc) (.slice ra rn rc) (.slice ta' m' tc') (.slice ra' rn' rc') (.slice a1 n1 j1) (.slice a2 n2 j2) (.slice a3 n3 j3) (.slice a4 n4 j4) (.slice a5 n5 j5) (.slice a6 n6 j6) (.slice a9 n9 j9) (.slice a10 n10 j10) w' ∧ Ny w (.slice ta m tc) (.slice ra rn rc) (.slice ta' m' tc') (.slice ra' rn' rc') (.slice a1 n1 j1) (.slice a2 n2 j2) (.slice a3 n3 j3) (.slice a4 n4 j4) (.slice a5 n5 j5) (.slice a6 n6 j6) ts ts' us us' wo rs rs' wros w.heap.size w1.heap.size w3.heap.size w5.heap.size w' ∧ GA w' (.slice a9 n9 j9) (.slice a10 n10 j10) bo bros ∧ TwoC w11.heap.size (.slice a9 n9 j9) (.slice a10 n10 j10) w') := hid (fun u t => (spoil_raw _ _ _ _ _ u (HV9.out.go.no (t912.then t))).mono (fun e w' ⟨he, ts9⟩ => by
    have hown := HV9.out.go.owns
    have z12 := t912.size
    have z11 := HV11.out.tn.size
    simp at z11
    have t8 : Tn No (w5.alloc (.cells #[.slice a5 n5 j5, .slice a6 n6 j6] 27)) w' := ((HV9.out.tn.then t912).then t).trans ts9 (fun _ _ e => e) (fun i hi e => by have := (hown i e).1; omega)
    have hny := HNY8.out.no t8
    have hb : GO w' (w9.alloc (.cells #[.slice a7 n7 j7, .slice a8 n8 j8] 27)).heap.size (.slice a9 n9 j9) (.slice a10 n10 j10) bo bros := ((HV11.out.go.no t12).no t).kept ts9 (fun k e => by have := (hown k e).2; simp; omega)
    have hc : TwoC w11.heap.size (.slice a9 n9 j9) (.slice a10 n10 j10) w' := (hc11.no t).tn ts9 (fun e => by have := (hown _ e).2; omega)
    exact ⟨he, ⟨hny.cg, hny.ch, hny.cx, hny.cy, hny.cw, hc⟩, hny, hb.ga, hc⟩))
  obtain ⟨⟨S0, S1, S2⟩, ⟨S3, S4, S5⟩, ⟨S6, S7, S8⟩, ⟨S9, S10, S11⟩⟩ := HN6 W12 (Tn.refl _ _)
  have HEQB : Hid (eqG bo wo bros wros = true) := hid (cnv_eq (pl_nds HPX.out) (pl_may HPX.out rs) HV11.out HV5.out)
  rw [hW12]
  clear hW12 t12 t912 hny12 hc9 hc11 hEX HN6 HO1 HO2 HCR HNY HCX HNY8 HV5 HV9 HV11 HOX HOY HT3 x0 x1 x2 y0 y1 y2 s0 s1 s2 v0 v1 v2
  go_region_held3 (fun u => (u.cell? ⟨w.heap.size, 0, none⟩ = some (.slice ta m tc) ∧ u.cell? ⟨w.heap.size, 1, none⟩ = some (.slice ra rn rc) ∧ w.heap.size < u.heap.size) ∧ (u.cell? ⟨w1.heap.size, 0, none⟩ = some (.slice a1 n1 j1) ∧ u.cell? ⟨w1.heap.size, 1, none⟩ = some (.slice a2 n2 j2) ∧ w1.heap.size < u.heap.size) ∧ (u.cell? ⟨w5.heap.size, 0, none⟩ = some (.slice a5 n5 j5) ∧ u.cell? ⟨w5.heap.size, 1, none⟩ = some (.slice a6 n6 j6) ∧ w5.heap.size < u.heap.size) ∧ (u.cell? ⟨w9.heap.size, 0, none⟩ = some (.slice a7 n7 j7) ∧ u.cell? ⟨w9.heap.size, 1, none⟩ = some (.slice a8 n8 j8) ∧ w9.heap.size < u.heap.size)) (go_keep) (first
    | (go_at_call 14; refine (HCR6.out w14 _ HT14.out (by repeat (first | exact Tn.refl _ _ | apply Tn.drew | apply Tn.drewN | apply Tn.alloc | (refine Tn.then ?_ (by assumption)) | (refine Tn.thenNo ?_ (by assumption))))).mono ?_; rintro e w15 ⟨rfl, ⟨⟨S0, S1, S2⟩, ⟨S3, S4, S5⟩, ⟨S6, S7, S8⟩, ⟨S9, S10, S11⟩⟩, t15⟩; have HT15 := hid t15; clear t15)
    | (go_at_call 13; refine (HCK6.out w13 _ HT13.out (by repeat (first | exact Tn.refl _ _ | apply Tn.drew | apply Tn.drewN | apply Tn.alloc | (refine Tn.then ?_ (by assumption)) | (refine Tn.thenNo ?_ (by assumption))))).mono ?_; rintro e w14 ⟨rfl, ⟨⟨S0, S1, S2⟩, ⟨S3, S4, S5⟩, ⟨S6, S7, S8⟩, ⟨S9, S10, S11⟩⟩, t14⟩; have HT14 := hid t14; clear t14)
    | (go_at_call 19; refine (HEQ6.out W12 _ (Tn.refl No W12) (by repeat (first | exact Tn.refl _ _ | apply Tn.drew | apply Tn.drewN | apply Tn.alloc | (refine Tn.then ?_ (by assumption)) | (refine Tn.thenNo ?_ (by assumption))))).mono ?_; rintro e w13 ⟨rfl, ⟨⟨S0, S1, S2⟩, ⟨S3, S4, S5⟩, ⟨S6, S7, S8⟩, ⟨S9, S10, S11⟩⟩, t13⟩; have HT13 := hid t13; clear t13))
  go_wp2_with (first
    | (go_at_call 20; refine (HSPO.out _ HT15.out).mono ?_; rintro e w16 ⟨rfl, ⟨⟨Z0, Z1, Z2⟩, ⟨Z3, Z4, Z5⟩, ⟨Z6, Z7, Z8⟩, ⟨Z9, Z10, Z11⟩, ⟨Z12, Z13, Z14⟩, ⟨Z15, Z16, Z17⟩⟩, hny, hgb, hcb⟩; have HNY16 := hid hny; have HGB := hid hgb; have HCB := hid hcb; clear hny hgb hcb))
  have HN9 : ∀ u, Tn No w16 u → Ny9 w.heap.size w1.heap.size w3.heap.size w5.heap.size w11.heap.size (.slice ta m tc) (.slice ra rn rc) (.slice ta' m' tc') (.slice ra' rn' rc') (.slice a1 n1 j1) (.slice a2 n2 j2) (.slice a3 n3 j3) (.slice a4 n4 j4) (.slice a5 n5 j5) (.slice a6 n6 j6) (.slice a9 n9 j9) (.slice a10 n10 j10) u := fun u t => ⟨(HNY16.out.no t).cg, (HNY16.out.no t).ch, (HNY16.out.no t).cx, (HNY16.out.no t).cy, (HNY16.out.no t).cw, HCB.out.no t⟩
  obtain ⟨Q, hQ⟩ : ∃ Q : Bool, (Q = true ↔ SameP ts rs ts' rs') := by
    by_cases hp : SameP ts rs ts' rs'
    · exact ⟨true, by simp [hp]⟩
    · exact ⟨false, by simp [hp]⟩
  have hbool : ∀ q : Bool, (q = true ↔ SameP ts rs ts' rs') → q = Q := fun q h => by
    rw [Bool.eq_iff_iff, h, hQ]
  have HEQ9 : Hid (∀ u u', Tn No w16 u → Tn No u u' → Calls Try.prog 19 #[.agg #[.slice a9 n9 j9, .slice a10 n10 j10], .agg #[.slice a5 n5 j5, .slice a6 n6 j6]] u' fun e w' => e = .returned (.bool true) ∧ Ny9 w.heap.size w1.heap.size w3.heap.size w5.heap.size w11.heap.size (.slice ta m tc) (.slice ra rn rc) (.slice ta' m' tc') (.slice ra' rn' rc') (.slice a1 n1 j1) (.slice a2 n2 j2) (.slice a3 n3 j3) (.slice a4 n4 j4) (.slice a5 n5 j5) (.slice a6 n6 j6) (.slice a9 n9 j9) (.slice a10 n10 j10) w' ∧ Tn No w16 w') := hid (fun u u' t t' => (rEqual_raw _ _ _ _ _ _ _ _ u' (HGB.out.no (t.then t')) (HNY16.out.wa.no (t.then t'))).mono (fun e w' ⟨he, tn⟩ => by
    rw [HEQB.out] at he
    exact ⟨he, HN9 _ ((t.then t').then tn), (t.then t').then tn⟩))
  have HSM9 : Hid (∀ u u', Tn No w16 u → Tn No u u' → Calls Try.prog 21 #[.agg #[.slice a1 n1 j1, .slice a2 n2 j2], .agg #[.slice a3 n3 j3, .slice a4 n4 j4]] u' fun e w' => e = .returned (.bool Q) ∧ Ny9 w.heap.size w1.heap.size w3.heap.size w5.heap.size w11.heap.size (.slice ta m tc) (.slice ra rn rc) (.slice ta' m' tc') (.slice ra' rn' rc') (.slice a1 n1 j1) (.slice a2 n2 j2) (.slice a3 n3 j3) (.slice a4 n4 j4) (.slice a5 n5 j5) (.slice a6 n6 j6) (.slice a9 n9 j9) (.slice a10 n10 j10) w' ∧ Tn No w16 w') := hid (fun u u' t t' => (same_raw _ _ _ _ _ _ _ _ u' (HNY16.out.x.no (t.then t')) (HNY16.out.y.no (t.then t'))).mono (fun e w' ⟨q, he, tn, hq⟩ => by
    rw [hbool q (hq.trans (pl_sameP HPX.out HPY.out))] at he
    exact ⟨he, HN9 _ ((t.then t').then tn), (t.then t').then tn⟩))
  have HRS9 : Hid (∀ u u', Tn No w16 u → Tn No u u' → Calls Try.prog 22 #[.agg #[.slice ta m tc, .slice ra rn rc], .agg #[.slice ta' m' tc', .slice ra' rn' rc']] u' fun e w' => e = .returned (.bool Q) ∧ Ny9 w.heap.size w1.heap.size w3.heap.size w5.heap.size w11.heap.size (.slice ta m tc) (.slice ra rn rc) (.slice ta' m' tc') (.slice ra' rn' rc') (.slice a1 n1 j1) (.slice a2 n2 j2) (.slice a3 n3 j3) (.slice a4 n4 j4) (.slice a5 n5 j5) (.slice a6 n6 j6) (.slice a9 n9 j9) (.slice a10 n10 j10) w' ∧ Tn No w16 w') := hid (fun u u' t t' => (rSame_raw _ _ _ _ _ _ _ _ u' (HNY16.out.g.no (t.then t')) (HNY16.out.h.no (t.then t'))).mono (fun e w' ⟨q, he, tn, hq⟩ => by
    rw [hbool q hq] at he
    exact ⟨he, HN9 _ ((t.then t').then tn), (t.then t').then tn⟩))
  have HKX9 : Hid (∀ u u', Tn No w16 u → Tn No u u' → Calls Try.prog 23 #[.agg #[.slice a1 n1 j1, .slice a2 n2 j2], .agg #[.slice ta m tc, .slice ra rn rc]] u' fun e w' => e = .returned (.bool true) ∧ Ny9 w.heap.size w1.heap.size w3.heap.size w5.heap.size w11.heap.size (.slice ta m tc) (.slice ra rn rc) (.slice ta' m' tc') (.slice ra' rn' rc') (.slice a1 n1 j1) (.slice a2 n2 j2) (.slice a3 n3 j3) (.slice a4 n4 j4) (.slice a5 n5 j5) (.slice a6 n6 j6) (.slice a9 n9 j9) (.slice a10 n10 j10) w' ∧ Tn No w16 w') := hid (fun u u' t t' => (kept_raw _ _ _ _ _ _ _ _ u' (HNY16.out.x.no (t.then t')) (HNY16.out.mx.no (t.then t')) (HNY16.out.g.no (t.then t'))).mono (fun e w' ⟨he, tn⟩ => by
    rw [eqG_pl HPX.out rs] at he
    exact ⟨he, HN9 _ ((t.then t').then tn), (t.then t').then tn⟩))
  have HKY9 : Hid (∀ u u', Tn No w16 u → Tn No u u' → Calls Try.prog 23 #[.agg #[.slice a3 n3 j3, .slice a4 n4 j4], .agg #[.slice ta' m' tc', .slice ra' rn' rc']] u' fun e w' => e = .returned (.bool true) ∧ Ny9 w.heap.size w1.heap.size w3.heap.size w5.heap.size w11.heap.size (.slice ta m tc) (.slice ra rn rc) (.slice ta' m' tc') (.slice ra' rn' rc') (.slice a1 n1 j1) (.slice a2 n2 j2) (.slice a3 n3 j3) (.slice a4 n4 j4) (.slice a5 n5 j5) (.slice a6 n6 j6) (.slice a9 n9 j9) (.slice a10 n10 j10) w' ∧ Tn No w16 w') := hid (fun u u' t t' => (kept_raw _ _ _ _ _ _ _ _ u' (HNY16.out.y.no (t.then t')) (HNY16.out.my.no (t.then t')) (HNY16.out.h.no (t.then t'))).mono (fun e w' ⟨he, tn⟩ => by
    rw [eqG_pl HPY.out rs'] at he
    exact ⟨he, HN9 _ ((t.then t').then tn), (t.then t').then tn⟩))
  have HKN9 : Hid (∀ u u', Tn No w16 u → Tn No u u' → Calls Try.prog 15 #[] u' fun e w' => e = .returned (.bool true) ∧ Ny9 w.heap.size w1.heap.size w3.heap.size w5.heap.size w11.heap.size (.slice ta m tc) (.slice ra rn rc) (.slice ta' m' tc') (.slice ra' rn' rc') (.slice a1 n1 j1) (.slice a2 n2 j2) (.slice a3 n3 j3) (.slice a4 n4 j4) (.slice a5 n5 j5) (.slice a6 n6 j6) (.slice a9 n9 j9) (.slice a10 n10 j10) w' ∧ Tn No w16 w') := hid (fun u u' t t' => (HKN.out u').mono (fun e w' ⟨he, tn⟩ => ⟨he, HN9 _ ((t.then t').then tn), (t.then t').then tn⟩))
  have HTW := hid HNY16.out.tn
  clear HN9 hQ hbool HKN HNY16 HGB HCB HPX HPY HEQB HEQ6 HCK6 HCR6 HSPO HT13 HT14 HT15 S0 S1 S2 S3 S4 S5 S6 S7 S8 S9 S10 S11
  go_region_held3 (fun u => (u.cell? ⟨w.heap.size, 0, none⟩ = some (.slice ta m tc) ∧ u.cell? ⟨w.heap.size, 1, none⟩ = some (.slice ra rn rc) ∧ w.heap.size < u.heap.size) ∧ (u.cell? ⟨w.heap.size + 1, 0, none⟩ = some (.slice ta' m' tc') ∧ u.cell? ⟨w.heap.size + 1, 1, none⟩ = some (.slice ra' rn' rc') ∧ w.heap.size + 1 < u.heap.size) ∧ (u.cell? ⟨w1.heap.size, 0, none⟩ = some (.slice a1 n1 j1) ∧ u.cell? ⟨w1.heap.size, 1, none⟩ = some (.slice a2 n2 j2) ∧ w1.heap.size < u.heap.size) ∧ (u.cell? ⟨w3.heap.size, 0, none⟩ = some (.slice a3 n3 j3) ∧ u.cell? ⟨w3.heap.size, 1, none⟩ = some (.slice a4 n4 j4) ∧ w3.heap.size < u.heap.size) ∧ (u.cell? ⟨w5.heap.size, 0, none⟩ = some (.slice a5 n5 j5) ∧ u.cell? ⟨w5.heap.size, 1, none⟩ = some (.slice a6 n6 j6) ∧ w5.heap.size < u.heap.size) ∧ (u.cell? ⟨w11.heap.size, 0, none⟩ = some (.slice a9 n9 j9) ∧ u.cell? ⟨w11.heap.size, 1, none⟩ = some (.slice a10 n10 j10) ∧ w11.heap.size < u.heap.size)) (go_keep) (first
    | (go_at_call 15; refine (HKN9.out w21 _ HT21.out (by repeat (first | exact Tn.refl _ _ | apply Tn.drew | apply Tn.drewN | apply Tn.alloc | (refine Tn.then ?_ (by assumption)) | (refine Tn.thenNo ?_ (by assumption))))).mono ?_; rintro e w22 ⟨rfl, ⟨⟨Z0, Z1, Z2⟩, ⟨Z3, Z4, Z5⟩, ⟨Z6, Z7, Z8⟩, ⟨Z9, Z10, Z11⟩, ⟨Z12, Z13, Z14⟩, ⟨Z15, Z16, Z17⟩⟩, t22⟩; have HT22 := hid t22; clear t22)
    | (go_at_call 23; refine (HKY9.out w20 _ HT20.out (by repeat (first | exact Tn.refl _ _ | apply Tn.drew | apply Tn.drewN | apply Tn.alloc | (refine Tn.then ?_ (by assumption)) | (refine Tn.thenNo ?_ (by assumption))))).mono ?_; rintro e w21 ⟨rfl, ⟨⟨Z0, Z1, Z2⟩, ⟨Z3, Z4, Z5⟩, ⟨Z6, Z7, Z8⟩, ⟨Z9, Z10, Z11⟩, ⟨Z12, Z13, Z14⟩, ⟨Z15, Z16, Z17⟩⟩, t21⟩; have HT21 := hid t21; clear t21)
    | (go_at_call 23; refine (HKX9.out w19 _ HT19.out (by repeat (first | exact Tn.refl _ _ | apply Tn.drew | apply Tn.drewN | apply Tn.alloc | (refine Tn.then ?_ (by assumption)) | (refine Tn.thenNo ?_ (by assumption))))).mono ?_; rintro e w20 ⟨rfl, ⟨⟨Z0, Z1, Z2⟩, ⟨Z3, Z4, Z5⟩, ⟨Z6, Z7, Z8⟩, ⟨Z9, Z10, Z11⟩, ⟨Z12, Z13, Z14⟩, ⟨Z15, Z16, Z17⟩⟩, t20⟩; have HT20 := hid t20; clear t20)
    | (go_at_call 22; refine (HRS9.out w18 _ HT18.out (by repeat (first | exact Tn.refl _ _ | apply Tn.drew | apply Tn.drewN | apply Tn.alloc | (refine Tn.then ?_ (by assumption)) | (refine Tn.thenNo ?_ (by assumption))))).mono ?_; rintro e w19 ⟨rfl, ⟨⟨Z0, Z1, Z2⟩, ⟨Z3, Z4, Z5⟩, ⟨Z6, Z7, Z8⟩, ⟨Z9, Z10, Z11⟩, ⟨Z12, Z13, Z14⟩, ⟨Z15, Z16, Z17⟩⟩, t19⟩; have HT19 := hid t19; clear t19)
    | (go_at_call 21; refine (HSM9.out w17 _ HT17.out (by repeat (first | exact Tn.refl _ _ | apply Tn.drew | apply Tn.drewN | apply Tn.alloc | (refine Tn.then ?_ (by assumption)) | (refine Tn.thenNo ?_ (by assumption))))).mono ?_; rintro e w18 ⟨rfl, ⟨⟨Z0, Z1, Z2⟩, ⟨Z3, Z4, Z5⟩, ⟨Z6, Z7, Z8⟩, ⟨Z9, Z10, Z11⟩, ⟨Z12, Z13, Z14⟩, ⟨Z15, Z16, Z17⟩⟩, t18⟩; have HT18 := hid t18; clear t18)
    | (go_at_call 19; refine (HEQ9.out w16 _ (Tn.refl No w16) (by repeat (first | exact Tn.refl _ _ | apply Tn.drew | apply Tn.drewN | apply Tn.alloc | (refine Tn.then ?_ (by assumption)) | (refine Tn.thenNo ?_ (by assumption))))).mono ?_; rintro e w17 ⟨rfl, ⟨⟨Z0, Z1, Z2⟩, ⟨Z3, Z4, Z5⟩, ⟨Z6, Z7, Z8⟩, ⟨Z9, Z10, Z11⟩, ⟨Z12, Z13, Z14⟩, ⟨Z15, Z16, Z17⟩⟩, t17⟩; have HT17 := hid t17; clear t17))
  go_wp2
  go_ret
  exact ⟨rfl, HTW.out.then HT22.out⟩
end Go.Proofs.Ytlkbnjdhokjfnaa
