/-
  heap: values whose things have moved.
-/
import Derived.Test.YtlkbnjdhokjfnaaHKnown2
namespace Go.Proofs.Ytlkbnjdhokjfnaa
set_option linter.unusedSimpArgs false
set_option linter.unusedVariables false
open Go.RowKit
attribute [local go_sem ↓] Go.wp_at_zero Go.wp_at_succ

/-- a value whose things have moved by k of n places -/
def movR (n k : Nat) (r : Rf) : Rf := if r.1 = 2 then (2, (((r.2.toNat + (n - k)) % n : Nat) : Int)) else r

set_option maxHeartbeats 4000000 in
set_option maxRecDepth 100000 in
theorem moved_raw (lv : Value) (l : List Rf) (n k : Nat) (w : World) (h : LD 2 eR w lv l) (hl : l.length ≤ 1073741824) (hn : n ≤ 1073741824) (hk : k < n) (hr : ∀ r ∈ l, r.1 = 2 → 0 ≤ r.2 ∧ r.2 < (n : Int)) :
    Calls Try.prog 28 #[lv, .int .i64 (n : Int), .int .i64 (k : Int)] w fun e w' => ∃ v, e = .returned v ∧ Mk 2 eR w v (l.map (movR n k)) w' := by
  obtain ⟨m, hm⟩ : ∃ m, l.length = m := ⟨_, rfl⟩
  rw [hm] at hl
  obtain ⟨a, c, hv, hc, hcm, hat⟩ := h
  rw [hm] at hv
  rw [hv]
  have HAT := hid hat
  have HM := hid hm
  have HR := hid hr
  have HMK : Hid (Mk 2 eR w (.slice none 0 0) ([] : List Rf) w) := hid ⟨LR.nil _ _ _, Tn.refl _ _, fun g hg => by cases hg⟩
  clear hat hm hv hr
  go_enter Try.func28, Try.ntmps28
  go_wp2_with fail
  go_loopw [7, 8] (fun v i wr => ∃ j : Nat, j ≤ m ∧ i = .int .i64 (j : Int) ∧ Mk 2 eR w v ((l.take j).map (movR n k)) wr) (fun _ i _ => m - (intOf i).toNat)
  case atStart => exact ⟨0, by omega, rfl, HMK.out⟩
  case round =>
    obtain ⟨j, hj, rfl, hmk⟩ := hrel
    clear HMK
    by_cases hlt : j < m
    · have hjl : j < l.length := by have := HM.out; omega
      obtain ⟨g, o, rfl, hg, hcell⟩ := HAT.out (by omega)
      obtain ⟨q0, q1⟩ := ref_cells hcell j hjl
      rw [← hmk.tn.cell hg (fun e => e)] at q0 q1
      have hps := map_take_succ (movR n k) hjl
      have hrr := HR.out _ (List.getElem_mem hjl)
      have hji : (j : Int) < (m : Int) := by omega
      by_cases h2 : l[j].1 = 2
      · obtain ⟨N, hN⟩ : ∃ N : Nat, l[j].2 = (N : Int) := ⟨l[j].2.toNat, by have := hrr h2; omega⟩
        have hNn : N < n := by have := hrr h2; omega
        have hmv : movR n k l[j] = (2, (((N + (n - k)) % n : Nat) : Int)) := by simp [movR, h2, hN]
        rw [hmv] at hps
        obtain ⟨y, hy⟩ : ∃ y, (N + (n - k)) % n = y := ⟨_, rfl⟩
        have hyn : y < n := by rw [← hy]; exact Nat.mod_lt _ (by omega)
        rw [hy] at hps
        rw [h2] at q0
        rw [hN] at q1
        have e1 : ((N : Int) + ((n : Int) - (k : Int))).tmod (n : Int) = (y : Int) := by
          rw [Int.tmod_eq_emod_of_nonneg (by omega)]
          have : (N : Int) + ((n : Int) - (k : Int)) = ((N + (n - k) : Nat) : Int) := by omega
          rw [this, ← hy]
          rfl
        have e2 : ((N : Int) + ((n : Int) - (k : Int))) % (n : Int) = (y : Int) := by
          rw [← Int.tmod_eq_emod_of_nonneg (by omega)]; exact e1
        have e3 : ((n : Int) == 0) = false := by simp; omega
        have t1 : Tn No wr ((wr.alloc (.cells #[.int .i64 2, .int .i64 (y : Int)] 61)).alloc (.cells #[.int .i64 2, .int .i64 (y : Int)] 61)) := ((Tn.refl No wr).alloc _).alloc _
        obtain ⟨v', w', hrun, hlr, hou⟩ := lref_push (hmk.no t1).lr (2, (y : Int)) (wr.heap.size + 1) (by rw [World.cell?_alloc_at _ _ _ _ (by simp)]; rfl) (by rw [World.cell?_alloc_at _ _ _ _ (by simp)]; rfl) (by simp; omega)
        rw [← hps] at hlr
        have HRUN := hid hrun
        have HMK := hid ((hmk.no t1).step hlr hou)
        have i1 : (k : Int) < (n : Int) := by omega
        have i2 : (N : Int) < (n : Int) := by omega
        clear hcell hps hrr h2 hmk t1 hrun hlr hou hmv hN hy HAT HR hjl
        go_wp2_with (at_builtin; refine wpList_app _ rfl _ _ _ _ rfl _ _ rfl rfl _ w' HRUN.out ?_)
        go_roundw
        case rel => exact ⟨j + 1, by omega, by go_num, HMK.out⟩
        case measure => simp [intOf]; omega
      · have d2 : (l[j].1 == 2) = false := by simpa using h2
        have hmv : movR n k l[j] = l[j] := by simp [movR, h2]
        rw [hmv] at hps
        have t1 : Tn No wr ((wr.alloc (.cells #[.int .i64 l[j].1, .int .i64 l[j].2] 61)).alloc (.cells #[.int .i64 l[j].1, .int .i64 l[j].2] 61)) := ((Tn.refl No wr).alloc _).alloc _
        obtain ⟨v', w', hrun, hlr, hou⟩ := lref_push (hmk.no t1).lr l[j] (wr.heap.size + 1) (by rw [World.cell?_alloc_at _ _ _ _ (by simp)]; rfl) (by rw [World.cell?_alloc_at _ _ _ _ (by simp)]; rfl) (by simp; omega)
        rw [← hps] at hlr
        have HRUN := hid hrun
        have HMK := hid ((hmk.no t1).step hlr hou)
        clear hcell hps hrr h2 hmk t1 hrun hlr hou hmv HAT HR
        generalize l[j].1 = x1 at *
        generalize l[j].2 = x2 at *
        clear hjl
        go_wp2_with (at_builtin; refine wpList_app _ rfl _ _ _ _ rfl _ _ rfl rfl _ w' HRUN.out ?_)
        go_roundw
        case rel => exact ⟨j + 1, by omega, by go_num, HMK.out⟩
        case measure => simp [intOf]; omega
    · obtain rfl : j = m := by omega
      have HMK := hid hmk
      clear hmk
      go_wp2
      go_ret
      have e1 : l.take j = l := List.take_of_length_le (by have := HM.out; omega)
      have := HMK.out
      rw [e1] at this
      exact ⟨_, rfl, this⟩
end Go.Proofs.Ytlkbnjdhokjfnaa
namespace Go.Proofs.Ytlkbnjdhokjfnaa
set_option linter.unusedSimpArgs false
set_option linter.unusedVariables false
open Go.RowKit

def phi (n k a : Nat) : Nat := (a + (n - k)) % n
theorem phi_lt {n k a : Nat} (hn : 0 < n) : phi n k a < n := Nat.mod_lt _ hn
theorem phi_back {n k a : Nat} (hk : k < n) (ha : a < n) : (phi n k a + k) % n = a := by
  unfold phi
  rcases Nat.lt_or_ge (a + (n - k)) n with h | h
  · rw [Nat.mod_eq_of_lt h]
    rw [show a + (n - k) + k = a + n by omega, Nat.add_mod_right, Nat.mod_eq_of_lt ha]
  · have e : (a + (n - k)) % n = a + (n - k) - n := by rw [Nat.mod_eq_sub_mod h, Nat.mod_eq_of_lt (by omega)]
    rw [e, show a + (n - k) - n + k = a by omega, Nat.mod_eq_of_lt ha]
theorem phi_inj {n k a b : Nat} (hk : k < n) (ha : a < n) (hb : b < n) (e : phi n k a = phi n k b) : a = b := by
  rw [← phi_back hk ha, ← phi_back hk hb, e]

theorem movR_v {n k : Nat} {r : Rf} (h : fitsR n r = true) (hk : k < n) : vOf (movR n k r) = (vOf r).map (phi n k) ∧ okR (movR n k r) ∧ (i64ok r.1 ∧ i64ok r.2 → n ≤ 1073741824 → i64ok (movR n k r).1 ∧ i64ok (movR n k r).2) := by
  obtain ⟨a, x⟩ := r
  simp only [fitsR, decide_eq_true_eq] at h
  rcases h with ⟨rfl, hx⟩ | ⟨rfl, hx⟩
  · simp only [movR, vOf, show ¬ ((1 : Int) = 2) by omega, if_false, Hp.V.map, true_and]
    exact ⟨.inl rfl, fun h _ => h⟩
  · simp only [movR, vOf, if_true, Hp.V.map, Int.toNat_natCast, true_and]
    refine ⟨rfl, .inr ⟨rfl, Int.natCast_nonneg _⟩, fun _ hn => ?_⟩
    have := phi_lt (k := k) (a := x.toNat) (show 0 < n by omega)
    unfold phi at this
    simp only [i64ok]
    omega
theorem movRs_v {n k : Nat} {l : List Rf} (h : ∀ r ∈ l, fitsR n r = true) (hk : k < n) : (l.map (movR n k)).map vOf = (l.map vOf).map (Hp.V.map (phi n k)) ∧ ∀ r ∈ l.map (movR n k), okR r := by
  refine ⟨?_, ?_⟩
  · rw [List.map_map, List.map_map]
    apply List.map_congr_left
    intro r hr
    exact (movR_v (h r hr) hk).1
  · intro r hr
    obtain ⟨x, hx, rfl⟩ := List.mem_map.1 hr
    exact (movR_v (h x hx) hk).2.1

/-- the moved graph's things, wherever their values lie -/
structure Moved (n k : Nat) (ts us : List Th) : Prop where
  len : us.length = n + 1
  at' : ∀ i, i < n → ∃ t u, ts[(i + k) % n]? = some t ∧ us[i]? = some u ∧ u.kind = t.kind ∧ u.tag = t.tag ∧ u.bytes = t.bytes ∧ u.refs = t.refs.map (movR n k)
  last : ∃ u, us[n]? = some u ∧ u.kind = 2 ∧ u.tag = 0 ∧ u.bytes = ⟨#[110, 111, 98, 111, 100, 121]⟩ ∧ u.refs = []

theorem moved_same {n k : Nat} {ts us : List Th} {rs : List Rf} (hm : mayG ts rs = true) (hn : ts.length = n) (hk : k < n) (h : Moved n k ts us) : SameP ts rs us (rs.map (movR n k)) ∧ SameP us (rs.map (movR n k)) ts rs ∧ SameP ts rs ts rs := by
  obtain ⟨ok1, ok2, mb⟩ := may_ok hm
  obtain ⟨m1, m2, m3⟩ := may_parts hm
  have f1 : ∀ r ∈ rs, fitsR n r = true := by rw [← hn]; exact List.all_eq_true.1 m1
  have f3 : ∀ t ∈ ts, ∀ r ∈ t.refs, fitsR n r = true := fun t ht => by rw [← hn]; exact List.all_eq_true.1 (m3 t ht)
  have hrs := movRs_v f1 hk
  have hu : ∀ a t, (ts.map Th.nd)[a]? = some t → (us.map Th.nd)[phi n k a]? = some (t.map (phi n k)) := by
    intro a t ht
    rw [List.getElem?_map, Option.map_eq_some_iff] at ht
    obtain ⟨x, hx, rfl⟩ := ht
    have ha : a < n := by have := (List.getElem?_eq_some_iff.1 hx).1; omega
    obtain ⟨t', u, e1, e2, k1, k2, k3, k4⟩ := h.at' (phi n k a) (phi_lt (by omega))
    rw [phi_back hk ha, hx] at e1
    cases e1
    rw [List.getElem?_map, e2]
    simp only [Option.map_some, Option.some.injEq, Th.nd, Hp.Nd.map, k1, k2, k3, k4, Hp.Nd.mk.injEq, true_and]
    exact (movRs_v (f3 x (List.mem_of_getElem? hx)) hk).1
  have hcases : ∀ u ∈ us, (∃ t ∈ ts, u.kind = t.kind ∧ u.tag = t.tag ∧ u.bytes = t.bytes ∧ u.refs = t.refs.map (movR n k)) ∨ (u.kind = 2 ∧ u.tag = 0 ∧ u.bytes = ⟨#[110, 111, 98, 111, 100, 121]⟩ ∧ u.refs = []) := by
    intro u hu'
    obtain ⟨i, hi⟩ := List.getElem?_of_mem hu'
    have hil := (List.getElem?_eq_some_iff.1 hi).1
    rw [h.len] at hil
    by_cases hin : i < n
    · obtain ⟨t, u', e1, e2, r⟩ := h.at' i hin
      rw [hi] at e2; cases e2
      exact .inl ⟨t, List.mem_of_getElem? e1, r⟩
    · obtain ⟨u', e2, r⟩ := h.last
      rw [show i = n by omega, e2] at hi; cases hi
      exact .inr r
  have hoku : ∀ u ∈ us, okT u.pl := by
    intro u hu'
    rcases hcases u hu' with ⟨t, ht, _, _, _, k4⟩ | ⟨_, _, _, k4⟩
    · intro r hr
      have hr' : r ∈ u.refs := hr
      rw [k4] at hr'
      exact (movRs_v (f3 t ht) hk).2 r hr'
    · intro r hr
      have hr' : r ∈ u.refs := hr
      rw [k4] at hr'; cases hr'
  have hfit : ∀ r, fitsR n r = true → fitsR us.length (movR n k r) = true := by
    intro r hr
    obtain ⟨a, x⟩ := r
    simp only [fitsR, decide_eq_true_eq] at hr ⊢
    rw [h.len]
    rcases hr with ⟨rfl, hx⟩ | ⟨rfl, hx⟩
    · exact .inl ⟨rfl, hx⟩
    · have := phi_lt (k := k) (a := x.toNat) (show 0 < n by omega)
      refine .inr ⟨rfl, ?_, ?_⟩
      · show (0 : Int) ≤ ((phi n k x.toNat : Nat) : Int)
        omega
      · show ((phi n k x.toNat : Nat) : Int) < ((n + 1 : Nat) : Int)
        omega
  have hmu : mayG us (rs.map (movR n k)) = true := by
    simp only [mayG, Bool.and_eq_true, List.all_eq_true]
    refine ⟨fun r hr => ?_, fun u hu' => ?_⟩
    · obtain ⟨x, hx, rfl⟩ := List.mem_map.1 hr
      exact hfit x (f1 x hx)
    · simp only [mayTh, Bool.and_eq_true, List.all_eq_true]
      rcases hcases u hu' with ⟨t, ht, k1, k2, k3, k4⟩ | ⟨k1, k2, k3, k4⟩
      · refine ⟨?_, fun r hr => ?_⟩
        · have := List.all_eq_true.1 m2 t ht
          unfold mayT at this ⊢
          rw [k1, k2, k3, k4, List.length_map]
          exact this
        · rw [k4] at hr
          obtain ⟨x, hx, rfl⟩ := List.mem_map.1 hr
          exact hfit x (f3 t ht x hx)
      · refine ⟨?_, fun r hr => by rw [k4] at hr; cases hr⟩
        unfold mayT
        rw [k1, k2, k3, k4]
        rfl
  obtain ⟨cs, os, hc⟩ := Hp.canon_ex mb
  have hl : (ts.map Th.nd).length = n := by simp [hn]
  have hc' := Hp.canon_turned mb (φ := phi n k) (fun a b ha hb e => phi_inj hk (by omega) (by omega) e) hu hc
  rw [← hrs.1] at hc'
  exact ⟨⟨hm, hmu, cs, os, hc, hc'⟩, ⟨hmu, hm, cs, os, hc', hc⟩, ⟨hm, hm, cs, os, hc, hc⟩⟩
end Go.Proofs.Ytlkbnjdhokjfnaa
namespace Go.Proofs.Ytlkbnjdhokjfnaa
set_option linter.unusedSimpArgs false
set_option linter.unusedVariables false
open Go.RowKit

/-- blocks that turn while the moved graph is being made -/
def actm (tv : Value) (cb k : Nat) : Prop := tv.ownBlock = some k ∨ k = cb

/-- the first i things have moved -/
structure Mvd (n k : Nat) (ts us : List Th) (i : Nat) : Prop where
  len : us.length = i
  at' : ∀ j, j < i → ∃ t u, ts[(j + k) % n]? = some t ∧ us[j]? = some u ∧ u.kind = t.kind ∧ u.tag = t.tag ∧ u.bytes = t.bytes ∧ u.refs = t.refs.map (movR n k)
theorem Mvd.next {n k i : Nat} {ts us : List Th} (h : Mvd n k ts us i) {t u : Th} (e : ts[(i + k) % n]? = some t) (h1 : u.kind = t.kind) (h2 : u.tag = t.tag) (h3 : u.bytes = t.bytes) (h4 : u.refs = t.refs.map (movR n k)) : Mvd n k ts (us ++ [u]) (i + 1) := by
  have hl := h.len
  refine ⟨by simp [hl], fun j hj => ?_⟩
  by_cases e2 : j < i
  · obtain ⟨t', u', f1, f2, r⟩ := h.at' j e2
    exact ⟨t', u', f1, by rw [List.getElem?_append_left (by omega)]; exact f2, r⟩
  · obtain rfl : j = i := by omega
    exact ⟨t, u, e, by rw [List.getElem?_append_right (by omega), hl, Nat.sub_self]; rfl, h1, h2, h3, h4⟩
theorem Mvd.done {n k : Nat} {ts us : List Th} (h : Mvd n k ts us n) {u : Th} (h1 : u.kind = 2) (h2 : u.tag = 0) (h3 : u.bytes = ⟨#[110, 111, 98, 111, 100, 121]⟩) (h4 : u.refs = []) : Moved n k ts (us ++ [u]) := by
  have hl := h.len
  refine ⟨by simp [hl], fun j hj => ?_, u, by rw [List.getElem?_append_right (by omega), hl, Nat.sub_self]; rfl, h1, h2, h3, h4⟩
  obtain ⟨t', u', f1, f2, r⟩ := h.at' j hj
  exact ⟨t', u', f1, by rw [List.getElem?_append_left (by omega)]; exact f2, r⟩

/-- a graph's things being made -/
structure Tu (lo : Nat) (w3 : World) (cb : Nat) (tvo : Value) (out : List Th) (wr : World) : Prop where
  up : Up (fun x => x = cb) w3 (actm tvo cb) wr
  c0 : wr.cell? ⟨cb, 0, none⟩ = some tvo
  c1 : wr.cell? ⟨cb, 1, none⟩ = some (.slice none 0 0)
  cf : ∀ j, wr.frozen? ⟨cb, j, none⟩ = false
  cl : cb < wr.heap.size
  tl : LR 4 eT wr tvo out
  tn : ∀ g, tvo.ownBlock = some g → lo ≤ g ∧ g ≠ cb
  each : ∀ t ∈ out, TO wr lo (actm tvo cb) t

theorem Tu.push {lo : Nat} {w3 : World} {cb : Nat} {tvo : Value} {out : List Th} {wr : World} (h : Tu lo w3 cb tvo out wr) (hlo : lo ≤ wr.heap.size) {W : World} (tW : Tn No wr W) (t : Th) (hv : LR 2 eR W t.rv t.refs) (hnew : ∀ g, t.rv.ownBlock = some g → wr.heap.size ≤ g)
    (hT : i64ok t.kind ∧ i64ok t.tag ∧ (∀ r ∈ t.refs, i64ok r.1 ∧ i64ok r.2) ∧ t.bytes.size ≤ 1073741824 ∧ t.refs.length ≤ 1073741824) (b : Nat) (hb : ∀ j, j < 4 → W.cell? ⟨b, j, none⟩ = (eT t)[j]?) (hl : out.length + 1 ≤ 4294967296) :
    ∃ tvo' w5, (Builtin.append_ #[25, 25] 25 #[tvo, .slice (some ⟨b, 0, none⟩) 1 1]).run Try.prog W = .ok tvo' w5 ∧ (∃ a n c, tvo' = .slice a n c) ∧ w5.cell? ⟨cb, 0, none⟩ = some tvo ∧ w5.frozen? ⟨cb, 0, none⟩ = false ∧ cb < w5.heap.size ∧
      Tu lo w3 cb tvo' (out ++ [t]) (w5.setCell ⟨cb, 0, none⟩ tvo') := by
  obtain ⟨va, vc', hvf, _⟩ := hv.rw.form
  have hcl := h.cl
  have zW := tW.size
  obtain ⟨tvo', w5, hrun, hlt, hou⟩ := lth_push (h.tl.no tW) t (by rw [hvf]; rfl) b hb hl
  have z5 := hou.tn.size
  have tcb : tvo.ownBlock ≠ some cb := fun e => (h.tn cb e).2 rfl
  have e0 : w5.cell? ⟨cb, 0, none⟩ = some tvo := by rw [hou.tn.cell (by omega) tcb, tW.cell (by omega) (fun e => e)]; exact h.c0
  have e1 : w5.cell? ⟨cb, 1, none⟩ = some (.slice none 0 0) := by rw [hou.tn.cell (by omega) tcb, tW.cell (by omega) (fun e => e)]; exact h.c1
  have f5 : ∀ j, w5.frozen? ⟨cb, j, none⟩ = false := fun j => by rw [hou.tn.frozen (by omega) tcb, tW.frozen (by omega) (fun e => e)]; exact h.cf j
  refine ⟨tvo', w5, hrun, ?_, e0, f5 0, by omega, ?_⟩
  · obtain ⟨a, c, e, _⟩ := hlt.rw.form
    exact ⟨a, _, c, e⟩
  have tnew : ∀ g, tvo'.ownBlock = some g → lo ≤ g ∧ g ≠ cb := fun g hg => by
    rcases hou.own g hg with e | e
    · exact h.tn g e
    · exact ⟨by omega, by omega⟩
  have uo : Up (actm tvo cb) wr (actm tvo' cb) w5 := by
    refine ⟨(tW.any).trans (hou.tn.mono (fun k _ e => .inl e)) (fun _ _ e => e) (fun _ _ e => e), fun k e => ?_⟩
    rcases e with e | e
    · rcases hou.own k e with e | e
      · exact .inl (.inl e)
      · exact .inr (by omega)
    · exact .inl (.inr e)
  have uc : Up (actm tvo' cb) w5 (actm tvo' cb) (w5.setCell ⟨cb, 0, none⟩ tvo') := ⟨(Tn.refl _ w5).set _ _ (fun _ => .inr rfl), fun _ e => .inl e⟩
  have uall := uo.trans uc
  have tcell : Tn (fun k => k = cb) w5 (w5.setCell ⟨cb, 0, none⟩ tvo') := (Tn.refl (fun k => k = cb) w5).set _ _ (fun _ => rfl)
  refine { up := h.up.trans uall, c0 := World.cell?_setCell_same w5 _ _ e0, c1 := ?_, cf := fun j => by rw [World.frozen?_setCell]; exact f5 j, cl := by simp; omega, tl := ?_, tn := tnew, each := ?_ }
  · rw [World.cell?_setCell_other _ _ _ _ (by simp)]; exact e1
  · exact hlt.tn tcell (fun g hg e => (tnew g hg).2 e)
  · intro x hx
    rcases List.mem_append.1 hx with hx | hx
    · exact (h.each x hx).up uall
    · simp only [List.mem_singleton] at hx
      subst hx
      refine ⟨(hv.tn hou.tn (fun g hg e => ?_)).tn tcell (fun g hg e => ?_), fun g hg => ⟨by have := hnew g hg; omega, fun e => ?_⟩, hT.1, hT.2.1, hT.2.2.1, hT.2.2.2.1, hT.2.2.2.2⟩
      · have := h.tl.rw.lt g e; have := hnew g hg; omega
      · have := hnew g hg; omega
      · have hg1 := hnew g hg
        have hg2 := hv.rw.lt g hg
        rcases e with e | e
        · rcases hou.own g e with e | e
          · have := h.tl.rw.lt g e; omega
          · omega
        · omega

/-- one more thing, as the law lays it -/
theorem Tu.next {lo : Nat} {w3 : World} {cb : Nat} {tvo : Value} {out : List Th} {wr : World} (h : Tu lo w3 cb tvo out wr) (hlo : lo ≤ wr.heap.size) (t : Th) (hT : i64ok t.kind ∧ i64ok t.tag ∧ t.bytes.size ≤ 1073741824) {rs : List Rf} (hrs : (∀ r ∈ rs, i64ok r.1 ∧ i64ok r.2) ∧ rs.length ≤ 1073741824) (hl : out.length + 1 ≤ 4294967296)
    {w1 w2 : World} {T : TypeId} (t1 : Tn No wr w1) (s1 : w1.heap.size = wr.heap.size + 1) (hh : w1.heap[wr.heap.size]? = some (.cells #[.int .i64 t.kind, .int .i64 t.tag, .string t.bytes, t.rv] T (0, 0))) {v : Value} (hm : Mk 2 eR w1 v rs w2) :
    w2.cell? ⟨wr.heap.size, 0, none⟩ = some (.int .i64 t.kind) ∧ w2.cell? ⟨wr.heap.size, 1, none⟩ = some (.int .i64 t.tag) ∧ w2.cell? ⟨wr.heap.size, 2, none⟩ = some (.string t.bytes) ∧ w2.cell? ⟨wr.heap.size, 3, none⟩ = some t.rv ∧ (∀ j, w2.frozen? ⟨wr.heap.size, j, none⟩ = false) ∧ wr.heap.size < w2.heap.size ∧
    w2.cell? ⟨cb, 0, none⟩ = some tvo ∧ cb < w2.heap.size ∧ cb ≠ wr.heap.size ∧ (∃ a n c, v = .slice a n c) ∧
    ∃ tvo' w5, (Builtin.append_ #[25, 25] 25 #[tvo, .slice (some ⟨w2.heap.size, 0, none⟩) 1 1]).run Try.prog ((w2.setCell ⟨wr.heap.size, 3, none⟩ v).alloc (.cells #[.int .i64 t.kind, .int .i64 t.tag, .string t.bytes, v] 24)) = .ok tvo' w5 ∧
      (∃ a n c, tvo' = .slice a n c) ∧ w5.cell? ⟨cb, 0, none⟩ = some tvo ∧ w5.frozen? ⟨cb, 0, none⟩ = false ∧ cb < w5.heap.size ∧
      Tu lo w3 cb tvo' (out ++ [⟨t.kind, t.tag, t.bytes, v, rs⟩]) (w5.setCell ⟨cb, 0, none⟩ tvo') := by
  have z2 := hm.tn.size
  have hcl := h.cl
  have b2 : w2.heap[wr.heap.size]? = some (.cells #[.int .i64 t.kind, .int .i64 t.tag, .string t.bytes, t.rv] T (0, 0)) := by rw [hm.tn.block _ (by omega) (fun e => e)]; exact hh
  obtain ⟨va, vc', hvf, _⟩ := hm.lr.rw.form
  have t12 := t1.then hm.tn
  refine ⟨by simp only [World.cell?, b2]; rfl, by simp only [World.cell?, b2]; rfl, by simp only [World.cell?, b2]; rfl, by simp only [World.cell?, b2]; rfl, fun j => by simp only [World.frozen?, b2]; simp, by omega, by rw [t12.cell hcl (fun e => e)]; exact h.c0, by omega, by omega, ⟨va, _, vc', hvf⟩, ?_⟩
  obtain ⟨W, hW⟩ : ∃ W, (w2.setCell ⟨wr.heap.size, 3, none⟩ v).alloc (.cells #[.int .i64 t.kind, .int .i64 t.tag, .string t.bytes, v] 24) = W := ⟨_, rfl⟩
  have ts : Tn (fun k => k = wr.heap.size) w2 W := by rw [← hW]; exact ((Tn.refl (fun k => k = wr.heap.size) w2).set _ _ (fun _ => rfl)).alloc _
  have es : (w2.setCell ⟨wr.heap.size, 3, none⟩ v).heap.size = w2.heap.size := by simp
  have cW : ∀ j, W.cell? ⟨w2.heap.size, j, none⟩ = (#[Value.int .i64 t.kind, .int .i64 t.tag, .string t.bytes, v])[j]? := fun j => by rw [← hW, ← es, World.cell?_alloc_new]
  rw [hW]
  refine h.push hlo (t12.trans ts (fun _ _ e => e) (fun i hi e => by omega)) ⟨t.kind, t.tag, t.bytes, v, rs⟩ (hm.lr.tn ts (fun g hg e => by have := hm.own g hg; omega)) (fun g hg => by have := hm.own g hg; omega) ⟨hT.1, hT.2.1, hrs.1, hT.2.2, hrs.2⟩ w2.heap.size (fun j hj => ?_) hl
  rw [cW]
  match j, hj with
  | 0, _ => rfl
  | 1, _ => rfl
  | 2, _ => rfl
  | 3, _ => rfl

/-- the text that nobody reaches -/
theorem Tu.nobody {lo : Nat} {w3 : World} {cb : Nat} {tvo : Value} {out : List Th} {wr : World} (h : Tu lo w3 cb tvo out wr) (hlo : lo ≤ wr.heap.size) (hl : out.length + 1 ≤ 4294967296) :
    ∃ tvo' w5, (Builtin.append_ #[25, 25] 25 #[tvo, .slice (some ⟨wr.heap.size, 0, none⟩) 1 1]).run Try.prog (wr.alloc (.cells #[.int .i64 2, .int .i64 0, .string ⟨#[110, 111, 98, 111, 100, 121]⟩, .slice none 0 0] 24)) = .ok tvo' w5 ∧
      (∃ a n c, tvo' = .slice a n c) ∧ w5.cell? ⟨cb, 0, none⟩ = some tvo ∧ w5.frozen? ⟨cb, 0, none⟩ = false ∧ cb < w5.heap.size ∧
      Tu lo w3 cb tvo' (out ++ [⟨2, 0, ⟨#[110, 111, 98, 111, 100, 121]⟩, .slice none 0 0, []⟩]) (w5.setCell ⟨cb, 0, none⟩ tvo') := by
  refine h.push hlo ((Tn.refl No wr).alloc _) ⟨2, 0, ⟨#[110, 111, 98, 111, 100, 121]⟩, .slice none 0 0, []⟩ (LR.nil _ _ _) (fun g hg => by cases hg) ⟨by simp [i64ok], by simp [i64ok], (fun r hr => by cases hr), by simp [ByteArray.size], by simp⟩ wr.heap.size (fun j hj => ?_) hl
  rw [World.cell?_alloc_new]
  match j, hj with
  | 0, _ => rfl
  | 1, _ => rfl
  | 2, _ => rfl
  | 3, _ => rfl
end Go.Proofs.Ytlkbnjdhokjfnaa
