/-
  heap: the laws' spoil: what writes into a graph that is one's own.
-/
import Derived.Test.YtlkbnjdhokjfnaaHGrA
namespace Go.Proofs.Ytlkbnjdhokjfnaa
set_option linter.unusedSimpArgs false
set_option linter.unusedVariables false
open Go.RowKit
attribute [local go_sem ↓] Go.wp_at_zero Go.wp_at_succ

/-- what could be read and written still can -/
def Wk (w wr : World) : Prop := ∀ g j, ((w.cell? ⟨g, j, none⟩).isSome = true → (wr.cell? ⟨g, j, none⟩).isSome = true) ∧ (w.frozen? ⟨g, j, none⟩ = false → wr.frozen? ⟨g, j, none⟩ = false)
theorem Wk.refl (w : World) : Wk w w := fun _ _ => ⟨id, id⟩
theorem Wk.set {w wr : World} (h : Wk w wr) (g i : Nat) (v : Value) : Wk w (wr.setCell ⟨g, i, none⟩ v) := fun g' j => by
  refine ⟨fun e => ?_, fun e => by rw [World.frozen?_setCell]; exact (h g' j).2 e⟩
  have h1 := (h g' j).1 e
  by_cases hh : (⟨g', j, none⟩ : Addr) = ⟨g, i, none⟩
  · rw [hh] at h1 ⊢
    obtain ⟨u, hu⟩ := Option.isSome_iff_exists.1 h1
    rw [World.cell?_setCell_same _ _ _ hu]; rfl
  · rw [World.cell?_setCell_other _ _ _ _ (fun e => hh e.symm)]; exact h1
theorem Wk.drewN {w wr : World} (h : Wk w wr) (q : Nat) : Wk w (wr.drewN q) := h

def ownF (tv rv : Value) (ts : List Th) (k : Nat) : Prop := tv.ownBlock = some k ∨ rv.ownBlock = some k ∨ ∃ t ∈ ts, t.rv.ownBlock = some k

/-- a graph being written into, k of its things -/
structure Sp (wB : World) (tv rv : Value) (ts : List Th) (tg k : Nat) (wr : World) : Prop where
  tn : Tn (ownF tv rv ts) wB wr
  wk : Wk wB wr
  th : ∀ j, j < ts.length → k ≤ j → ∀ c, c < 4 → wr.cell? ⟨tg, j * 4 + c, none⟩ = wB.cell? ⟨tg, j * 4 + c, none⟩
theorem Sp.start (wB : World) (tv rv : Value) (ts : List Th) (tg : Nat) : Sp wB tv rv ts tg 0 wB := ⟨Tn.refl _ _, Wk.refl _, fun _ _ _ _ _ => rfl⟩
theorem Sp.drewN {wB : World} {tv rv : Value} {ts : List Th} {tg k : Nat} {wr : World} (h : Sp wB tv rv ts tg k wr) (q : Nat) : Sp wB tv rv ts tg k (wr.drewN q) := ⟨h.tn.drewN q, h.wk, h.th⟩
/-- a value of a thing, or a root -/
theorem Sp.ref {wB : World} {tv rv : Value} {ts : List Th} {tg k : Nat} {wr : World} (h : Sp wB tv rv ts tg k wr) {g : Nat} (hF : ownF tv rv ts g) (hne : g ≠ tg) (i : Nat) (v v' : Value) : Sp wB tv rv ts tg k ((wr.setCell ⟨g, i, none⟩ v).setCell ⟨g, i + 1, none⟩ v') := by
  refine ⟨(h.tn.then ((Tn.refl _ wr).set _ _ (fun _ => hF))).then ((Tn.refl _ _).set _ _ (fun _ => hF)), (h.wk.set _ _ _).set _ _ _, fun j hj hk c hc => ?_⟩
  rw [World.cell?_setCell_other _ _ _ _ (by simp <;> omega), World.cell?_setCell_other _ _ _ _ (by simp <;> omega)]
  exact h.th j hj hk c hc
theorem Sp.root {wB : World} {tv rv : Value} {ts : List Th} {tg k : Nat} {wr : World} (h : Sp wB tv rv ts tg k wr) (hk : ts.length ≤ k) {g : Nat} (hF : ownF tv rv ts g) (i : Nat) (v v' : Value) : Sp wB tv rv ts tg k ((wr.setCell ⟨g, i, none⟩ v).setCell ⟨g, i + 1, none⟩ v') :=
  ⟨(h.tn.then ((Tn.refl _ wr).set _ _ (fun _ => hF))).then ((Tn.refl _ _).set _ _ (fun _ => hF)), (h.wk.set _ _ _).set _ _ _, fun j hj hkj => by omega⟩
/-- a thing -/
theorem Sp.thing {wB : World} {tv rv : Value} {ts : List Th} {tg k : Nat} {wr : World} (h : Sp wB tv rv ts tg k wr) (hF : ownF tv rv ts tg) (v0 v1 v2 v3 : Value) : Sp wB tv rv ts tg (k + 1) ((((wr.setCell ⟨tg, k * 4, none⟩ v0).setCell ⟨tg, k * 4 + 1, none⟩ v1).setCell ⟨tg, k * 4 + 2, none⟩ v2).setCell ⟨tg, k * 4 + 3, none⟩ v3) := by
  refine ⟨(((h.tn.then ((Tn.refl _ wr).set _ _ (fun _ => hF))).then ((Tn.refl _ _).set _ _ (fun _ => hF))).then ((Tn.refl _ _).set _ _ (fun _ => hF))).then ((Tn.refl _ _).set _ _ (fun _ => hF)), (((h.wk.set _ _ _).set _ _ _).set _ _ _).set _ _ _, fun j hj hk c hc => ?_⟩
  rw [World.cell?_setCell_other _ _ _ _ (by simp <;> omega), World.cell?_setCell_other _ _ _ _ (by simp <;> omega), World.cell?_setCell_other _ _ _ _ (by simp <;> omega), World.cell?_setCell_other _ _ _ _ (by simp <;> omega)]
  exact h.th j hj (by omega) c hc

/-- what can be written into -/
theorem rw_write {w wr : World} {size : Nat} {v : Value} {n : Nat} (h : RW w size v n) (hk : Wk w wr) {g cap : Nat} (hv : v = .slice (some ⟨g, 0, none⟩) n cap) (j : Nat) (hj : j < cap * size) : (∃ u, wr.cell? ⟨g, j, none⟩ = some u) ∧ wr.frozen? ⟨g, j, none⟩ = false := by
  rcases h with ⟨e, _⟩ | ⟨g', cap', e, _, _, _, h3⟩
  · rw [hv] at e; cases e
  · rw [hv] at e
    simp only [Value.slice.injEq, Option.some.injEq, Addr.mk.injEq] at e
    obtain ⟨⟨rfl, _⟩, _, rfl⟩ := e
    obtain ⟨a1, a2⟩ := h3 j hj
    exact ⟨Option.isSome_iff_exists.1 ((hk g j).1 a1), (hk g j).2 a2⟩

theorem GO.owns {w : World} {lo : Nat} {tv rv : Value} {ts : List Th} {rs : List Rf} (h : GO w lo tv rv ts rs) : ∀ k, ownF tv rv ts k → lo ≤ k ∧ k < w.heap.size := by
  intro k e
  rcases e with e | e | ⟨t, ht, e⟩
  · exact ⟨h.newt k e, h.things.rw.lt k e⟩
  · exact ⟨(h.newr k e).1, h.roots.rw.lt k e⟩
  · exact ⟨((h.each t ht).new k e).1, (h.each t ht).lr.rw.lt k e⟩

set_option maxHeartbeats 16000000 in
set_option maxRecDepth 100000 in
theorem spoil_raw (tv rv : Value) (ts : List Th) (rs : List Rf) (lo : Nat) (w : World) (h : GO w lo tv rv ts rs) :
    Calls Try.prog 20 #[.agg #[tv, rv]] w fun e w' => e = .returned (.tuple #[]) ∧ Tn (ownF tv rv ts) w w' := by
  have hF := h.owns
  have hFt : ∀ g cap, tv = .slice (some ⟨g, 0, none⟩) ts.length cap → ownF tv rv ts g := fun g cap e => .inl (by rw [e]; rfl)
  have htl := h.tlen
  have hrl := h.rlen
  obtain ⟨m, hmm⟩ : ∃ m, ts.length = m := ⟨_, rfl⟩
  obtain ⟨rn, hrn⟩ : ∃ rn, rs.length = rn := ⟨_, rfl⟩
  obtain ⟨wB, hwB⟩ : ∃ wB, w.alloc (.cells #[tv, rv] 27) = wB := ⟨_, rfl⟩
  have tB : Tn No w wB := by rw [← hwB]; exact (Tn.refl No w).alloc _
  have sB : wB.heap.size = w.heap.size + 1 := by rw [← hwB]; simp
  have b0 : wB.cell? ⟨w.heap.size, 0, none⟩ = some tv := by rw [← hwB, World.cell?_alloc_new]; rfl
  have b1 : wB.cell? ⟨w.heap.size, 1, none⟩ = some rv := by rw [← hwB, World.cell?_alloc_new]; rfl
  have HFIN : Hid (∀ tg k wr, Sp wB tv rv ts tg k wr → Tn (ownF tv rv ts) w wr) := hid (fun tg k wr hs => (tB.any).trans hs.tn (fun _ _ e => e) (fun i hi e => e))
  have HBX : Hid (∀ tg k wr, Sp wB tv rv ts tg k wr → wr.cell? ⟨w.heap.size, 0, none⟩ = some tv ∧ wr.cell? ⟨w.heap.size, 1, none⟩ = some rv ∧ w.heap.size < wr.heap.size) := hid (fun tg k wr hs => by
    have hn : ¬ ownF tv rv ts w.heap.size := fun e => by have := (hF _ e).2; omega
    have z := hs.tn.size
    exact ⟨by rw [hs.tn.cell (by omega) hn]; exact b0, by rw [hs.tn.cell (by omega) hn]; exact b1, by omega⟩)
  have hB := h.no tB
  have HRT := hid hB.roots.rw
  have HTT := hid hB.things.rw
  have HRO : Hid (∀ g, rv.ownBlock = some g → ownF tv rv ts g ∧ tv.ownBlock ≠ some g) := hid (fun g e => ⟨.inr (.inl e), (h.newr g e).2⟩)
  have HTH : Hid (∀ (x : Nat) (t : Th), ts[x]? = some t → RW wB 2 t.rv t.refs.length ∧ t.refs.length ≤ 1073741824 ∧ ∀ g, t.rv.ownBlock = some g → ownF tv rv ts g ∧ tv.ownBlock ≠ some g) := hid (fun x t e => by
    have hm := List.mem_of_getElem? e
    exact ⟨(hB.each t hm).lr.rw, (h.each t hm).len, fun g hg => ⟨.inr (.inr ⟨t, hm, hg⟩), ((h.each t hm).new g hg).2⟩⟩)
  have HAT := hid hB.things.at'
  have HM := hid hmm
  have HRN := hid hrn
  rw [hmm] at htl
  rw [hrn] at hrl
  obtain ⟨ta, tc, htv, htc, htc2, -⟩ := hB.things.rw.form
  obtain ⟨ra, rc, hrv, hrc, hrc2, -⟩ := hB.roots.rw.form
  rw [hmm] at htv htc
  rw [hrn] at hrv hrc
  have hsp0 : ∀ tg, Sp wB tv rv ts tg 0 wB := fun tg => Sp.start wB tv rv ts tg
  have HSP0 := hid hsp0
  have HWB := hid hwB
  have HTG : Hid (∃ tg, 0 < m → ta = some ⟨tg, 0, none⟩) := hid (by
    rcases hB.things.rw with ⟨e, e2⟩ | ⟨g, cap, e, _⟩
    · exact ⟨0, fun h0 => by rw [hmm] at e2; omega⟩
    · rw [htv] at e
      simp only [Value.slice.injEq] at e
      exact ⟨g, fun _ => e.1⟩)
  clear h hF hFt hmm hrn b0 b1 hB hsp0 tB sB hwB
  subst htv hrv
  go_enter Try.func20, Try.ntmps20
  go_wp2_with fail
  rw [HWB.out]
  clear HWB
  go_loopw [2] (fun i wr => ∃ (k tg : Nat), k ≤ m ∧ i = .int .i64 (k : Int) ∧ (0 < m → ta = some ⟨tg, 0, none⟩) ∧ Sp wB (.slice ta m tc) (.slice ra rn rc) ts tg k wr) (fun i _ => m - (intOf i).toNat)
  case atStart =>
    obtain ⟨tg, htg⟩ := HTG.out
    exact ⟨0, tg, by omega, rfl, htg, HSP0.out tg⟩
  case round =>
    obtain ⟨k, tg, hk, rfl, htg, hsp⟩ := hrel
    obtain ⟨wo, hwo⟩ : ∃ wo, wo = wr := ⟨_, rfl⟩
    subst hwo
    obtain ⟨p0, p1, p2⟩ := HBX.out _ _ _ hsp
    by_cases hlt : k < m
    · obtain rfl := htg (by omega)
      have hkl : k < ts.length := by have := HM.out; omega
      obtain ⟨hrw, hlen, hown⟩ := HTH.out k _ (List.getElem?_eq_getElem hkl)
      have q3 : wo.cell? ⟨tg, k * 4 + 3, none⟩ = some ts[k].rv := by
        rw [hsp.th k hkl (Nat.le_refl _) 3 (by omega)]
        exact HAT.out k hkl 3 (by omega)
      have hki : (k : Int) < (m : Int) := by omega
      have hkc : k * 4 + 4 ≤ tc * 4 := by omega
      have HSP := hid hsp
      have HOWN := hid hown
      have HRW := hid hrw
      have htgl : tg < wo.heap.size := by
        have := (HTT.out).lt tg rfl
        exact Nat.lt_of_lt_of_le this hsp.tn.size
      have HTGF : Hid (ownF (.slice (some ⟨tg, 0, none⟩) m tc) (.slice ra rn rc) ts tg) := hid (.inl rfl)
      have HDR : Hid (∀ q, Sp wB (.slice (some ⟨tg, 0, none⟩) m tc) (.slice ra rn rc) ts tg k (wo.drewN q)) := hid (fun q => hsp.drewN q)
      rcases hrw with ⟨hnil, hn0⟩ | ⟨g, cap, hsome, hg, hc1, hc2, -⟩
      · rw [hnil] at q3
        clear hsp hown hlen hnil hn0 HAT HTH htg
        go_wp2_with fail
        go_quiet (fail)
        go_wp2_with fail
        go_loopw [4] (fun i ww => ∃ q : Nat, q ≤ 0 ∧ i = .int .i64 (q : Int) ∧ Sp wB (.slice (some ⟨tg, 0, none⟩) m tc) (.slice ra rn rc) ts tg k ww) (fun i _ => 0 - (intOf i).toNat)
        case atStart => exact ⟨0, by omega, rfl, HDR.out _⟩
        case round =>
          obtain ⟨q, hq, rfl, hspi⟩ := hrel
          obtain rfl : q = 0 := by omega
          have HSPI := hid hspi
          clear hspi HDR HSP p0 p1 p2 q3
          have hspt := HSPI.out
          obtain ⟨z0, z1, z2⟩ := HBX.out _ _ _ hspt
          obtain ⟨⟨v0, e0⟩, f0⟩ := rw_write HTT.out hspt.wk (g := tg) (cap := tc) (by rw [HM.out]) (k * 4) (by omega)
          obtain ⟨⟨v1, e1⟩, f1⟩ := rw_write HTT.out hspt.wk (g := tg) (cap := tc) (by rw [HM.out]) (k * 4 + 1) (by omega)
          obtain ⟨⟨v2, e2⟩, f2⟩ := rw_write HTT.out hspt.wk (g := tg) (cap := tc) (by rw [HM.out]) (k * 4 + 2) (by omega)
          obtain ⟨⟨v3, e3⟩, f3⟩ := rw_write HTT.out hspt.wk (g := tg) (cap := tc) (by rw [HM.out]) (k * 4 + 3) (by omega)
          have htl2 : tg < wr.heap.size := Nat.lt_of_lt_of_le ((HTT.out).lt tg rfl) hspt.tn.size
          have HNX := hid (fun v0 v1 v2 v3 => hspt.thing HTGF.out v0 v1 v2 v3)
          clear hspt HSPI HRW
          go_wp2
          go_roundw
          case rel => exact ⟨k + 1, tg, by omega, by go_num, (fun _ => rfl), HNX.out _ _ _ _⟩
          case measure => simp [intOf]; omega
      · rw [hsome] at q3 HRW HOWN
        have hob := HOWN.out g rfl
        generalize ts[k].refs.length = n at *
        have hcm : cap ≤ 9223372036854775807 := by unfold maxLen at hc2; omega
        clear hsp hown hsome HAT HTH htg
        go_wp2_with fail
        go_quiet (fail)
        go_wp2_with fail
        go_loopw [4] (fun i ww => ∃ q : Nat, q ≤ cap ∧ i = .int .i64 (q : Int) ∧ Sp wB (.slice (some ⟨tg, 0, none⟩) m tc) (.slice ra rn rc) ts tg k ww) (fun i _ => cap - (intOf i).toNat)
        case atStart => exact ⟨0, by omega, rfl, HDR.out _⟩
        case round =>
          obtain ⟨q, hq, rfl, hspi⟩ := hrel
          clear HDR HSP p0 p1 p2 q3
          by_cases hql : q < cap
          · obtain ⟨⟨v0, e0⟩, f0⟩ := rw_write HRW.out hspi.wk rfl (q * 2) (by omega)
            obtain ⟨⟨v1, e1⟩, f1⟩ := rw_write HRW.out hspi.wk rfl (q * 2 + 1) (by omega)
            have hgl : g < wr.heap.size := Nat.lt_of_lt_of_le hg hspi.tn.size
            have HNX := hid (fun v v' => hspi.ref hob.1 (fun e => hob.2 (by rw [e]; rfl)) (q * 2) v v')
            have hqi : (q : Int) < (cap : Int) := by omega
            clear hspi
            go_wp2
            go_roundw
            case rel => exact ⟨q + 1, by omega, by go_num, HNX.out _ _⟩
            case measure => simp [intOf]; omega
          · obtain rfl : q = cap := by omega
            have HSPI := hid hspi
            clear hspi
            have hspt := HSPI.out
            obtain ⟨z0, z1, z2⟩ := HBX.out _ _ _ hspt
            obtain ⟨⟨v0, e0⟩, f0⟩ := rw_write HTT.out hspt.wk (g := tg) (cap := tc) (by rw [HM.out]) (k * 4) (by omega)
            obtain ⟨⟨v1, e1⟩, f1⟩ := rw_write HTT.out hspt.wk (g := tg) (cap := tc) (by rw [HM.out]) (k * 4 + 1) (by omega)
            obtain ⟨⟨v2, e2⟩, f2⟩ := rw_write HTT.out hspt.wk (g := tg) (cap := tc) (by rw [HM.out]) (k * 4 + 2) (by omega)
            obtain ⟨⟨v3, e3⟩, f3⟩ := rw_write HTT.out hspt.wk (g := tg) (cap := tc) (by rw [HM.out]) (k * 4 + 3) (by omega)
            have htl2 : tg < wr.heap.size := Nat.lt_of_lt_of_le ((HTT.out).lt tg rfl) hspt.tn.size
            have HNX := hid (fun v0 v1 v2 v3 => hspt.thing HTGF.out v0 v1 v2 v3)
            clear hspt HSPI HRW
            go_wp2
            go_roundw
            case rel => exact ⟨k + 1, tg, by omega, by go_num, (fun _ => rfl), HNX.out _ _ _ _⟩
            case measure => simp [intOf]; omega
    · have HSP := hid hsp
      clear hsp HAT HTH htg
      go_wp2_with fail
      go_loopw [5] (fun i ww => ∃ q : Nat, q ≤ rn ∧ i = .int .i64 (q : Int) ∧ Sp wB (.slice ta m tc) (.slice ra rn rc) ts tg k ww) (fun i _ => rn - (intOf i).toNat)
      case atStart => exact ⟨0, by omega, rfl, HSP.out⟩
      case round =>
        obtain ⟨q, hq, rfl, hspi⟩ := hrel
        clear HSP p0 p1 p2
        obtain ⟨z0, z1, z2⟩ := HBX.out _ _ _ hspi
        by_cases hql : q < rn
        · have hrt := HRT.out
          rw [HRN.out] at hrt
          obtain ⟨rg, cap, er, hrg, hcr, -⟩ := hrt.pos (by omega)
          simp only [Value.slice.injEq] at er
          obtain ⟨rfl, -, rfl⟩ := er
          have hro := HRO.out rg rfl
          obtain ⟨⟨v0, e0⟩, f0⟩ := rw_write hrt hspi.wk rfl (q * 2) (by omega)
          obtain ⟨⟨v1, e1⟩, f1⟩ := rw_write hrt hspi.wk rfl (q * 2 + 1) (by omega)
          have hgl : rg < wr.heap.size := Nat.lt_of_lt_of_le hrg hspi.tn.size
          have HNX := hid (fun v v' => hspi.root (by have := HM.out; omega) hro.1 (q * 2) v v')
          have hqi : (q : Int) < (rn : Int) := by omega
          clear hspi hrt
          go_wp2
          go_roundw
          case rel => exact ⟨q + 1, by omega, by go_num, HNX.out _ _⟩
          case measure => simp [intOf]; omega
        · have HEND := hid (HFIN.out _ _ _ hspi)
          clear hspi
          go_wp2
          go_end0
          exact ⟨rfl, HEND.out⟩
end Go.Proofs.Ytlkbnjdhokjfnaa
