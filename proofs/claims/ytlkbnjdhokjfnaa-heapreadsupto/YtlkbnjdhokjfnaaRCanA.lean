/-
  heap's reference: what is reached, numbered by breadth.
-/
import Derived.Test.YtlkbnjdhokjfnaaRMeet
import Derived.Test.YtlkbnjdhokjfnaaHReached2
import Derived.BigRegion
import Derived.Test.YtlkbnjdhokjfnaaRCheck2
import Derived.Test.YtlkbnjdhokjfnaaHCanon
namespace Go.Proofs.Ytlkbnjdhokjfnaa
set_option linter.unusedSimpArgs false
set_option linter.unusedVariables false
open Go.RowKit
attribute [local go_sem ↓] Go.wp_at_zero Go.wp_at_succ

/-- blocks that turn while a graph is being made -/
def act2 (p b : Nat) (mv tv : Value) (cb : Nat) (k : Nat) : Prop := RO2 p b mv k ∨ tv.ownBlock = some k ∨ k = cb

/-- a graph that is being made, i things of it -/
structure Rc2 (ts : List Th) (rs : List Rf) (lo : Nat) (w3 : World) (A0 : Nat → Prop) (p b cb : Nat) (rvo : Value) (ros : List Rf) (i : Nat) (mv tvo : Value) (row : List Nat) (out : List Th) (wr : World) : Prop where
  up : Up A0 w3 (act2 p b mv tvo cb) wr
  ra : RB wr p b mv (Hp.cs row)
  st : Hp.Steps (Hp.nth (ts.map Th.nd)) (Hp.meet [] (rs.map vOf)) i row
  c0 : wr.cell? ⟨cb, 0, none⟩ = some tvo
  c1 : wr.cell? ⟨cb, 1, none⟩ = some rvo
  cf : ∀ j, wr.frozen? ⟨cb, j, none⟩ = false
  cl : cb < wr.heap.size
  cn : ¬ RO2 p b mv cb
  tl : LR 4 eT wr tvo out
  tn : ∀ g, tvo.ownBlock = some g → lo ≤ g ∧ ¬ RO2 p b mv g ∧ g ≠ cb
  each : ∀ t ∈ out, TO wr lo (act2 p b mv tvo cb) t
  nds : out.map Th.nd = Hp.upto (Hp.nth (ts.map Th.nd)) row i
  oks : ∀ t ∈ out, okT t.pl
  ro : LR 2 eR wr rvo ros
  rn : ∀ g, rvo.ownBlock = some g → lo ≤ g ∧ ¬ act2 p b mv tvo cb g

theorem pos_lt_cast2 {row : List Nat} {k : Nat} (h : k ∈ row) : Hp.pos row k < row.length := Hp.pos_lt h

/-- one more thing -/
theorem Rc2.next {ts : List Th} {rs : List Rf} {lo : Nat} {w3 : World} {A0 : Nat → Prop} {p b cb : Nat} {rvo : Value} {ros : List Rf} {i : Nat} {mv tvo : Value} {row : List Nat} {out : List Th} {wr : World}
    (h : Rc2 ts rs lo w3 A0 p b cb rvo ros i mv tvo row out wr) (hlo : lo ≤ wr.heap.size) {k : Nat} {t : Th} (e : row[i]? = some k) (g : ts[k]? = some t) (ok : okT t.pl) (hT : i64ok t.kind ∧ i64ok t.tag ∧ (∀ r ∈ t.refs, i64ok r.1 ∧ i64ok r.2) ∧ t.bytes.size ≤ 1073741824 ∧ t.refs.length ≤ 1073741824) (hrl : row.length + t.refs.length ≤ 4294967296) (hout : out.length + 1 ≤ 4294967296)
    {w1 w2 : World} {T : TypeId} (t1 : Tn No wr w1) (s1 : w1.heap.size = wr.heap.size + 1) (hh : w1.heap[wr.heap.size]? = some (.cells #[.int .i64 t.kind, .int .i64 t.tag, .string t.bytes, t.rv] T (0, 0))) {v mv2 : Value} (hr : Rn2 w1 p b mv (Hp.cs row) t.refs v w2 mv2) :
    w2.cell? ⟨wr.heap.size, 0, none⟩ = some (.int .i64 t.kind) ∧ w2.cell? ⟨wr.heap.size, 1, none⟩ = some (.int .i64 t.tag) ∧ w2.cell? ⟨wr.heap.size, 2, none⟩ = some (.string t.bytes) ∧ w2.cell? ⟨wr.heap.size, 3, none⟩ = some t.rv ∧ (∀ j, w2.frozen? ⟨wr.heap.size, j, none⟩ = false) ∧ wr.heap.size < w2.heap.size ∧
    w2.cell? ⟨cb, 0, none⟩ = some tvo ∧ cb < w2.heap.size ∧ cb ≠ wr.heap.size ∧
    ∃ tvo' w5, (Builtin.append_ #[25, 25] 25 #[tvo, .slice (some ⟨w2.heap.size, 0, none⟩) 1 1]).run Try.prog ((w2.setCell ⟨wr.heap.size, 3, none⟩ v).alloc (.cells #[.int .i64 t.kind, .int .i64 t.tag, .string t.bytes, v] 24)) = .ok tvo' w5 ∧
      (∃ a n c, tvo' = .slice a n c) ∧ w5.cell? ⟨cb, 0, none⟩ = some tvo ∧ w5.frozen? ⟨cb, 0, none⟩ = false ∧ cb < w5.heap.size ∧
      Rc2 ts rs lo w3 A0 p b cb rvo ros (i + 1) mv2 tvo' (Hp.meet row (t.refs.map vOf)) (out ++ [⟨t.kind, t.tag, t.bytes, v, t.refs.map (renR (Hp.cs (Hp.meet row (t.refs.map vOf))))⟩]) (w5.setCell ⟨cb, 0, none⟩ tvo') := by
  have hnr : ¬ RO2 p b mv wr.heap.size := fun e => by have := h.ra.olt _ e; omega
  have z2 := hr.up.tn.size
  have b2 : w2.heap[wr.heap.size]? = some (.cells #[.int .i64 t.kind, .int .i64 t.tag, .string t.bytes, t.rv] T (0, 0)) := by rw [hr.up.tn.block _ (by omega) hnr]; exact hh
  have hcl := h.cl
  have hgt : (Hp.nth (ts.map Th.nd)) k = some t.nd := by simp [Hp.nth, g]
  have emr : meetRs (Hp.cs row) t.refs = Hp.cs (Hp.meet row (t.refs.map vOf)) := meetRs_cast t.refs row ok
  have hlr := hr.lr
  rw [emr] at hlr
  have hra := hr.ra
  rw [emr] at hra
  -- the row's turn
  have u2 : Up (RO2 p b mv) wr (RO2 p b mv2) w2 := (Up.no t1).trans hr.up
  have tnn2 : ∀ g, tvo.ownBlock = some g → ¬ RO2 p b mv2 g := fun g hg e => by
    rcases u2.own g e with e | e
    · exact (h.tn g hg).2.1 e
    · have := h.tl.rw.lt g hg; omega
  have cn2 : ¬ RO2 p b mv2 cb := fun e => by
    rcases u2.own _ e with e | e
    · exact h.cn e
    · omega
  have wn2 : ¬ RO2 p b mv2 wr.heap.size := fun e => by
    rcases hr.up.own _ e with e | e
    · exact hnr e
    · omega
  have d0 : w2.cell? ⟨cb, 0, none⟩ = some tvo := by rw [u2.tn.cell hcl h.cn]; exact h.c0
  have d1 : w2.cell? ⟨cb, 1, none⟩ = some rvo := by rw [u2.tn.cell hcl h.cn]; exact h.c1
  -- the store, the new cells
  obtain ⟨W, hW⟩ : ∃ W, (w2.setCell ⟨wr.heap.size, 3, none⟩ v).alloc (.cells #[.int .i64 t.kind, .int .i64 t.tag, .string t.bytes, v] 24) = W := ⟨_, rfl⟩
  have ts : Tn (fun k => k = wr.heap.size) w2 W := by rw [← hW]; exact ((Tn.refl (fun k => k = wr.heap.size) w2).set _ _ (fun _ => rfl)).alloc _
  have sW : W.heap.size = w2.heap.size + 1 := by rw [← hW]; simp
  have es : (w2.setCell ⟨wr.heap.size, 3, none⟩ v).heap.size = w2.heap.size := by simp
  have cW : ∀ j, W.cell? ⟨w2.heap.size, j, none⟩ = (#[Value.int .i64 t.kind, .int .i64 t.tag, .string t.bytes, v])[j]? := fun j => by rw [← hW, ← es, World.cell?_alloc_new]
  have u3 : Up (RO2 p b mv) wr (RO2 p b mv2) W := ⟨u2.tn.trans ts (fun _ _ e => e) (fun i hi e => by omega), u2.own⟩
  have u3' : Up (act2 p b mv tvo cb) wr (act2 p b mv2 tvo cb) W := u3.more (fun k => tvo.ownBlock = some k ∨ k = cb)
  have hra3 : RB W p b mv2 (Hp.cs (Hp.meet row (t.refs.map vOf))) := hra.kept ts (fun k hk e => wn2 (by rw [← e]; exact hk))
  have htl3 : LR 4 eT W tvo out := h.tl.tn u3.tn (fun g hg => (h.tn g hg).2.1)
  have hvn : ∀ g, v.ownBlock = some g → wr.heap.size + 1 ≤ g ∧ ¬ RO2 p b mv2 g := fun g hg => by rw [← s1]; exact hr.new g hg
  have hlr3 : LR 2 eR W v (t.refs.map (renR (Hp.cs (Hp.meet row (t.refs.map vOf))))) := hlr.tn ts (fun g hg e => by have := (hvn g hg).1; omega)
  obtain ⟨va, vc', hvf, _⟩ := hlr3.rw.form
  obtain ⟨tvo', w5, hrun, hlt, hou⟩ := lth_push htl3 ⟨t.kind, t.tag, t.bytes, v, t.refs.map (renR (Hp.cs (Hp.meet row (t.refs.map vOf))))⟩ (by rw [hvf]; rfl) w2.heap.size (fun j hj => by
    rw [cW]
    match j, hj with
    | 0, _ => rfl
    | 1, _ => rfl
    | 2, _ => rfl
    | 3, _ => rfl) hout
  rw [hW]
  have z5 := hou.tn.size
  have tcb : tvo.ownBlock ≠ some cb := fun e => (h.tn cb e).2.2 rfl
  have e0 : w5.cell? ⟨cb, 0, none⟩ = some tvo := by rw [hou.tn.cell (by omega) tcb, ts.cell (by omega) (by omega)]; exact d0
  have e1 : w5.cell? ⟨cb, 1, none⟩ = some rvo := by rw [hou.tn.cell (by omega) tcb, ts.cell (by omega) (by omega)]; exact d1
  have f5 : ∀ j, w5.frozen? ⟨cb, j, none⟩ = false := fun j => by rw [hou.tn.frozen (by omega) tcb, ts.frozen (by omega) (by omega), u2.tn.frozen hcl h.cn]; exact h.cf j
  refine ⟨by simp only [World.cell?, b2]; rfl, by simp only [World.cell?, b2]; rfl, by simp only [World.cell?, b2]; rfl, by simp only [World.cell?, b2]; rfl, fun j => by simp only [World.frozen?, b2]; simp, by omega, d0, by omega, by omega, tvo', w5, hrun, ?_, e0, f5 0, by omega, ?_⟩
  · obtain ⟨a, c, e, _⟩ := hlt.rw.form
    exact ⟨a, _, c, e⟩
  have tnew : ∀ g, tvo'.ownBlock = some g → lo ≤ g ∧ ¬ RO2 p b mv2 g ∧ g ≠ cb := fun g hg => by
    rcases hou.own g hg with e | e
    · exact ⟨(h.tn g e).1, tnn2 g e, (h.tn g e).2.2⟩
    · refine ⟨by omega, fun e' => ?_, by omega⟩
      have := hra.olt g e'; omega
  have uo : Up (act2 p b mv2 tvo cb) W (act2 p b mv2 tvo' cb) w5 := by
    refine ⟨hou.tn.mono (fun k _ e => .inr (.inl e)), fun k e => ?_⟩
    rcases e with e | e | e
    · exact .inl (.inl e)
    · rcases hou.own k e with e | e
      · exact .inl (.inr (.inl e))
      · exact .inr e
    · exact .inl (.inr (.inr e))
  have uc : Up (act2 p b mv2 tvo' cb) w5 (act2 p b mv2 tvo' cb) (w5.setCell ⟨cb, 0, none⟩ tvo') := ⟨(Tn.refl _ w5).set _ _ (fun _ => .inr (.inr rfl)), fun _ e => .inl e⟩
  have uall := (u3'.trans uo).trans uc
  have tcell : Tn (fun k => k = cb) w5 (w5.setCell ⟨cb, 0, none⟩ tvo') := (Tn.refl (fun k => k = cb) w5).set _ _ (fun _ => rfl)
  refine { up := h.up.trans uall, ra := ?_, st := .succ h.st e hgt, c0 := World.cell?_setCell_same w5 _ _ e0, c1 := ?_, cf := fun j => by rw [World.frozen?_setCell]; exact f5 j, cl := by simp; omega, cn := cn2, tl := ?_, tn := tnew, each := ?_, nds := ?_, oks := ?_, ro := ?_, rn := ?_ }
  · exact (hra3.kept hou.tn (fun k hk e => tnn2 k e hk)).kept tcell (fun k hk e => cn2 (by rw [← e]; exact hk))
  · rw [World.cell?_setCell_other _ _ _ _ (by simp)]; exact e1
  · exact hlt.tn tcell (fun g hg e => (tnew g hg).2.2 e)
  · intro x hx
    rcases List.mem_append.1 hx with hx | hx
    · exact (h.each x hx).up uall
    · simp only [List.mem_singleton] at hx
      subst hx
      have hv5 : ∀ g, v.ownBlock = some g → ¬ act2 p b mv2 tvo' cb g := fun g hg e => by
        have hg1 := hvn g hg
        have hg2 := hlr3.rw.lt g hg
        rcases e with e | e | e
        · exact hg1.2 e
        · rcases hou.own g e with e | e
          · have := h.tl.rw.lt g e; omega
          · omega
        · omega
      refine ⟨(hlr3.tn hou.tn (fun g hg e => ?_)).tn tcell (fun g hg e => ?_), fun g hg => ⟨by have := (hvn g hg).1; omega, hv5 g hg⟩, hT.1, hT.2.1, ?_, hT.2.2.2.1, by simpa using hT.2.2.2.2⟩
      · have := h.tl.rw.lt g e; have := (hvn g hg).1; omega
      · have := (hvn g hg).1; omega
      · intro r hr'
        obtain ⟨x, hx, rfl⟩ := List.mem_map.1 hr'
        unfold renR
        split
        · rename_i e2
          have hb : Hp.pos (Hp.cs (Hp.meet row (t.refs.map vOf))) x.2 < (Hp.cs (Hp.meet row (t.refs.map vOf))).length := by
            apply Hp.pos_lt
            rw [← emr]
            exact meetRs_has _ _ x hx e2
          have hb2 : (Hp.cs (Hp.meet row (t.refs.map vOf))).length ≤ 4294967296 := by
            rw [← emr]
            obtain ⟨m, em, hm⟩ := meetRs_more (Hp.cs row) t.refs
            rw [em]; simp [Hp.cs] at hm ⊢; omega
          simp only [i64ok]
          omega
        · exact hT.2.2.1 x hx
  · rw [List.map_append, h.nds]
    have := h.st.upto e hgt
    show _ = Hp.upto _ (Hp.meet row t.nd.refs) (i + 1)
    rw [this]
    have e9 : (Th.mk t.kind t.tag t.bytes v (t.refs.map (renR (Hp.cs (Hp.meet row (t.refs.map vOf)))))).nd = t.nd.map (Hp.pos (Hp.meet row t.nd.refs)) := by
      simp only [Th.nd, Hp.Nd.map, Hp.Nd.mk.injEq, true_and]
      exact (renRs_cast (Hp.meet row (t.refs.map vOf)) t.refs ok).1
    rw [List.map_cons, List.map_nil, e9]
  · intro x hx
    rcases List.mem_append.1 hx with hx | hx
    · exact h.oks x hx
    · simp only [List.mem_singleton] at hx
      subst hx
      exact (renRs_cast (Hp.meet row (t.refs.map vOf)) t.refs ok).2
  · exact (h.ro.up uall (fun g hg => (h.rn g hg).2)).1
  · exact fun g hg => ⟨(h.rn g hg).1, (h.ro.up uall (fun g hg => (h.rn g hg).2)).2 g hg⟩
theorem Rc2.fin {ts : List Th} {rs : List Rf} {lo : Nat} {w w3 : World} {A0 : Nat → Prop} {p b cb : Nat} {rvo : Value} {ros : List Rf} {i : Nat} {mv tvo : Value} {row : List Nat} {out : List Th} {wr : World}
    (hm : mayG ts rs = true) (hl : ts.length ≤ 1073741824) (hrl : rs.length ≤ 1073741824) (hro : ∀ r ∈ ros, i64ok r.1 ∧ i64ok r.2) (h : Rc2 ts rs lo w3 A0 p b cb rvo ros i mv tvo row out wr) (t3 : Tn No w w3) (hA : ∀ k, A0 k → w.heap.size ≤ k)
    (eros : ros = rs.map (renR (Hp.cs (Hp.meet [] (rs.map vOf))))) (hi : i = row.length) : (GO wr lo tvo rvo out ros ∧ Tn No w wr ∧ (∀ t ∈ out, okT t.pl) ∧ ∀ r ∈ ros, okR r) ∧ Hp.Canon (Hp.nth (ts.map Th.nd)) (rs.map vOf) (out.map Th.nd) (ros.map vOf) := by
  obtain ⟨ok1, ok2, mb⟩ := may_ok hm
  obtain ⟨r1, r2, r3⟩ := row_lt hm h.st
  have hlen : out.length ≤ ts.length := by
    have := congrArg List.length h.nds
    rw [List.length_map] at this
    have := upto_len (Hp.nth (ts.map Th.nd)) row i
    omega
  have hrr := renRs_cast (Hp.meet [] (rs.map vOf)) rs ok1
  have hw := h.st.done hi
  obtain ⟨m, em⟩ := hw.more
  refine ⟨⟨⟨h.tl, fun g hg => (h.tn g hg).1, fun t ht => (h.each t ht).less (fun k e => .inr (.inl e)), h.ro, fun g hg => ⟨(h.rn g hg).1, fun e => (h.rn g hg).2 (.inr (.inl e))⟩, hro, by omega, by rw [eros]; simpa using hrl⟩, (Up.fresh t3 hA h.up).1, h.oks, by rw [eros]; exact hrr.2⟩, ⟨row, hw, ?_, ?_⟩⟩
  · rw [h.nds, hi, Hp.upto_all]
  · rw [eros, hrr.1]
    unfold Hp.roots
    apply List.map_congr_left
    intro v hv
    refine Hp.V.map_congr (Hp.meet_has [] v hv) (fun k hk => ?_)
    rw [em, Hp.pos_append hk]

end Go.Proofs.Ytlkbnjdhokjfnaa
namespace Go.Proofs.Ytlkbnjdhokjfnaa
set_option linter.unusedSimpArgs false
set_option linter.unusedVariables false
open Go.RowKit
attribute [local go_sem ↓] Go.wp_at_zero Go.wp_at_succ

set_option maxHeartbeats 4000000 in
set_option maxRecDepth 100000 in
theorem rCanon_bad (tv rv : Value) (ts : List Th) (rs : List Rf) (w : World) (h : GA w tv rv ts rs) (hm : mayG ts rs = false) :
    Calls Try.prog 17 #[.agg #[tv, rv]] w fun e w' => e = .returned (.tuple #[.agg #[.slice none 0 0, .slice none 0 0], .int .i64 141]) ∧ Tn No w w' := by
  obtain ⟨wB, hwB⟩ : ∃ wB, (w.alloc (.cells #[tv, rv] 27)).alloc (.cells #[.slice none 0 0, .slice none 0 0] 27) = wB := ⟨_, rfl⟩
  have tB : Tn No w wB := by rw [← hwB]; exact ((Tn.refl No w).alloc _).alloc _
  have sB : wB.heap.size = w.heap.size + 2 := by rw [← hwB]; simp
  have bR : wB.heap[w.heap.size + 1]? = some (.cells #[.slice none 0 0, .slice none 0 0] 27 (0, 0)) := by
    have := heap_alloc_new (w.alloc (.cells #[tv, rv] 27)) (.cells #[.slice none 0 0, .slice none 0 0] 27)
    rw [hwB] at this
    simpa using this
  have HM : Hid (Calls Try.prog 14 #[.agg #[tv, rv]] wB fun e w' => e = .returned (.int .i64 141) ∧ (w'.cell? ⟨w.heap.size + 1, 0, none⟩ = some (.slice none 0 0) ∧ w'.cell? ⟨w.heap.size + 1, 1, none⟩ = some (.slice none 0 0) ∧ w'.frozen? ⟨w.heap.size + 1, 0, none⟩ = false ∧ w'.frozen? ⟨w.heap.size + 1, 1, none⟩ = false ∧ w.heap.size + 1 < w'.heap.size) ∧ (∀ a a', Tn No w ((w'.setCell ⟨w.heap.size + 1, 0, none⟩ a).setCell ⟨w.heap.size + 1, 1, none⟩ a')) ∧ (∀ a a', ((w'.setCell ⟨w.heap.size + 1, 0, none⟩ a).setCell ⟨w.heap.size + 1, 1, none⟩ a').cell? ⟨w.heap.size + 1, 1, none⟩ = some a' ∧ (w'.setCell ⟨w.heap.size + 1, 0, none⟩ a).cell? ⟨w.heap.size + 1, 0, none⟩ = some a)) := hid ((rCheck_raw tv rv ts rs wB (h.no tB)).mono (fun e w' ⟨he, t⟩ => by
    rw [hm] at he
    have z := t.size
    have b : w'.heap[w.heap.size + 1]? = some (.cells #[.slice none 0 0, .slice none 0 0] 27 (0, 0)) := by rw [t.block _ (by omega) (fun e => e)]; exact bR
    have q0 : w'.cell? ⟨w.heap.size + 1, 0, none⟩ = some (.slice none 0 0) := by simp only [World.cell?, b]; rfl
    have q1 : w'.cell? ⟨w.heap.size + 1, 1, none⟩ = some (.slice none 0 0) := by simp only [World.cell?, b]; rfl
    refine ⟨he, ⟨q0, q1, by simp only [World.frozen?, b]; rfl, by simp only [World.frozen?, b]; rfl, by omega⟩, fun a a' => ?_, fun a a' => ?_⟩
    · exact ((tB.then t).set _ _ (by intro h; simp at h; omega)).set _ _ (by intro h; simp at h; omega)
    · have a1 : (w'.setCell ⟨w.heap.size + 1, 0, none⟩ a).cell? ⟨w.heap.size + 1, 1, none⟩ = some (.slice none 0 0) := by rw [World.cell?_setCell_other _ _ _ _ (by simp)]; exact q1
      exact ⟨World.cell?_setCell_same _ _ _ a1, World.cell?_setCell_same _ _ _ q0⟩))
  obtain ⟨ra, rc, hrv, -⟩ := h.roots
  obtain ⟨ta, tc, htv, -⟩ := h.things
  obtain ⟨rn, hrn⟩ : ∃ rn, rs.length = rn := ⟨_, rfl⟩
  obtain ⟨m, hmm⟩ : ∃ m, ts.length = m := ⟨_, rfl⟩
  rw [hrn] at hrv
  rw [hmm] at htv
  subst hrv htv
  clear h hm tB sB bR hrn hmm
  subst hwB
  go_enter Try.func17, Try.ntmps17
  go_wp2_with (go_at_call 14; refine HM.out.mono ?_; rintro e w2 ⟨rfl, ⟨y0, y1, y2, y3, y4⟩, hf, hk⟩; have HF := hid hf; have K2 := hid hk; clear hf hk)
  refine bodyPost_ret (v := .tuple #[.agg #[.slice none 0 0, .slice none 0 0], .int .i64 141]) (by simp [results, Try.results17, go_sem, (K2.out _ _).1, (K2.out _ (.int .i64 0)).2]) rfl ?_
  exact ⟨rfl, HF.out _ _⟩

/-- numbers, all -1 -/
theorem rb_start {w : World} {nb m : Nat} (hlt : nb < w.heap.size) (hf : ∀ i, w.frozen? ⟨nb, i, none⟩ = false) (hc : ∀ x, x < m → w.cell? ⟨nb, x, none⟩ = some (.int .i64 (-1))) : RB w nb m (.slice none 0 0) [] :=
  ⟨hlt, hf, fun x hx => by rw [hc x hx]; simp [numC], LR.nil _ _ _, by intro e; cases e⟩

/-- a graph being made, its roots met -/
theorem rc2_start {ts : List Th} {rs : List Rf} (okr : ∀ r ∈ rs, okR r) {lo nb m : Nat} {W4 w5 : World} {v mv' : Value} {cb : Nat} (hcb : cb < W4.heap.size) (hlo : lo ≤ W4.heap.size) (hne : cb ≠ nb) (h0 : W4.cell? ⟨cb, 0, none⟩ = some (.slice none 0 0)) (h1 : W4.cell? ⟨cb, 1, none⟩ = some (.slice none 0 0)) (hf : ∀ j, W4.frozen? ⟨cb, j, none⟩ = false)
    (hrn : Rn2 W4 nb m (.slice none 0 0) [] rs v w5 mv') :
    (∃ a n c, v = .slice a n c) ∧ w5.cell? ⟨cb, 1, none⟩ = some (.slice none 0 0) ∧ w5.frozen? ⟨cb, 1, none⟩ = false ∧ cb < w5.heap.size ∧
    Rc2 ts rs lo (w5.setCell ⟨cb, 1, none⟩ v) (act2 nb m mv' (.slice none 0 0) cb) nb m cb v (rs.map (renR (Hp.cs (Hp.meet [] (rs.map vOf))))) 0 mv' (.slice none 0 0) (Hp.meet [] (rs.map vOf)) [] (w5.setCell ⟨cb, 1, none⟩ v) := by
  have hn0 : ¬ RO2 nb m (.slice none 0 0) cb := by
    intro e
    rcases e with e | e
    · exact hne e
    · cases e
  have z5 := hrn.up.tn.size
  have hn5 : ¬ RO2 nb m mv' cb := fun e => by
    rcases hrn.up.own _ e with e | e
    · exact hn0 e
    · omega
  have k0 : w5.cell? ⟨cb, 0, none⟩ = some (.slice none 0 0) := by rw [hrn.up.tn.cell hcb hn0]; exact h0
  have k1 : w5.cell? ⟨cb, 1, none⟩ = some (.slice none 0 0) := by rw [hrn.up.tn.cell hcb hn0]; exact h1
  have kf : ∀ j, w5.frozen? ⟨cb, j, none⟩ = false := fun j => by rw [hrn.up.tn.frozen hcb hn0]; exact hf j
  obtain ⟨va, vcp, hvf, _⟩ := hrn.lr.rw.form
  have emr : meetRs [] rs = Hp.cs (Hp.meet [] (rs.map vOf)) := meetRs_cast rs [] okr
  have hlr := hrn.lr
  have hra := hrn.ra
  rw [emr] at hlr hra
  have ts' : Tn (fun k => k = cb) w5 (w5.setCell ⟨cb, 1, none⟩ v) := (Tn.refl (fun k => k = cb) w5).set _ _ (fun _ => rfl)
  have hvn : ∀ g, v.ownBlock = some g → g ≠ cb := fun g hg e => by have := (hrn.new g hg).1; omega
  refine ⟨⟨va, _, vcp, hvf⟩, k1, kf 1, by omega, ?_⟩
  exact {
    up := Up.refl _ _
    ra := hra.kept ts' (fun k hk e => hn5 (by rw [← e]; exact hk))
    st := .zero
    c0 := by rw [World.cell?_setCell_other _ _ _ _ (by simp)]; exact k0
    c1 := World.cell?_setCell_same _ _ _ k1
    cf := fun j => by rw [World.frozen?_setCell]; exact kf j
    cl := by simp; omega
    cn := hn5
    tl := LR.nil _ _ _
    tn := fun g hg => by cases hg
    each := fun t ht => by cases ht
    nds := by rw [Hp.upto_zero]; rfl
    oks := fun t ht => by cases ht
    ro := hlr.tn ts' hvn
    rn := fun g hg => by
      refine ⟨by have := (hrn.new g hg).1; omega, fun e => ?_⟩
      rcases e with e | e | e
      · exact (hrn.new g hg).2 e
      · cases e
      · exact hvn g hg e }

theorem made_room (m : Nat) (hm : m ≤ 1073741824) : ∃ C : Array Value, C.size = m ∧ ∀ w, (Instr.makeSlice 56 (.int .i64 (m : Int)) (.int .i64 (m : Int))).run Try.prog w = .ok (.slice (some ⟨w.heap.size, 0, none⟩) m m) (w.alloc (.cells C 3)) := by
  obtain ⟨i0, hi, hz0, hz1, hz2⟩ := info_parts int_info
  refine ⟨madeCells #[.int .i64 0] (m * 1), by rw [size_madeCells]; omega, fun w => ?_⟩
  have h := run_make (P := Try.prog) w 56 3 i0 _ Try.underlying56 hi hz0 .i64 .i64 (m : Int) (m : Int) (by omega) (Int.le_refl _) (by rw [hz2]; omega) (by omega)
  rw [hz1] at h
  simp only [Int.toNat_natCast] at h
  exact h
end Go.Proofs.Ytlkbnjdhokjfnaa
namespace Go.Proofs.Ytlkbnjdhokjfnaa
set_option linter.unusedSimpArgs false
set_option linter.unusedVariables false
open Go.RowKit
attribute [local go_sem ↓] Go.wp_at_zero Go.wp_at_succ

/-- numbers being set to -1 -/
structure Fl (wN : World) (nb m k : Nat) (wr : World) : Prop where
  tn : Tn (fun x => x = nb) wN wr
  lt : nb < wr.heap.size
  fz : ∀ i, wr.frozen? ⟨nb, i, none⟩ = false
  some' : ∀ x, x < m → ∃ u, wr.cell? ⟨nb, x, none⟩ = some u
  done : ∀ x, x < k → wr.cell? ⟨nb, x, none⟩ = some (.int .i64 (-1))
theorem fl_start (wA : World) (C : Array Value) (m : Nat) (hC : C.size = m) : Fl (wA.alloc (.cells C 3)) wA.heap.size m 0 (wA.alloc (.cells C 3)) := by
  refine ⟨Tn.refl _ _, by simp, fun i => ?_, fun x hx => ?_, fun x hx => by omega⟩
  · simp only [World.frozen?, heap_alloc_new]; simp
  · rw [World.cell?_alloc_new]
    exact ⟨_, Array.getElem?_eq_getElem (by omega)⟩
theorem Fl.next {wN : World} {nb m k : Nat} {wr : World} (h : Fl wN nb m k wr) (hk : k < m) : Fl wN nb m (k + 1) (wr.setCell ⟨nb, k, none⟩ (.int .i64 (-1))) := by
  obtain ⟨u, hu⟩ := h.some' k hk
  have hs := World.cell?_setCell_same wr ⟨nb, k, none⟩ (.int .i64 (-1)) hu
  have ho : ∀ x, x ≠ k → (wr.setCell ⟨nb, k, none⟩ (.int .i64 (-1))).cell? ⟨nb, x, none⟩ = wr.cell? ⟨nb, x, none⟩ := fun x hx => World.cell?_setCell_other _ _ _ _ (by simp <;> omega)
  refine ⟨h.tn.then ((Tn.refl _ wr).set _ _ (fun _ => rfl)), by simp; exact h.lt, fun i => by rw [World.frozen?_setCell]; exact h.fz i, fun x hx => ?_, fun x hx => ?_⟩
  · by_cases e : x = k
    · subst e; exact ⟨_, hs⟩
    · rw [ho x e]; exact h.some' x hx
  · by_cases e : x = k
    · subst e; exact hs
    · rw [ho x e]; exact h.done x (by omega)

set_option maxHeartbeats 16000000 in
set_option maxRecDepth 100000 in
theorem rCanon_ok (tv rv : Value) (ts : List Th) (rs : List Rf) (w : World) (h : GA w tv rv ts rs) (hm : mayG ts rs = true) :
    Calls Try.prog 17 #[.agg #[tv, rv]] w (CanonPost ts rs w) := by
  obtain ⟨ok1, ok2, mb⟩ := may_ok hm
  obtain ⟨m1, m2, m3⟩ := may_parts hm
  have htl := h.tlen
  have hrl := h.rlen
  obtain ⟨m, hmm⟩ : ∃ m, ts.length = m := ⟨_, rfl⟩
  have f1 : ∀ r ∈ rs, r.1 = 2 → 0 ≤ r.2 ∧ r.2 < (m : Int) := by rw [← hmm]; exact fits_lt m1
  have f3 : ∀ t ∈ ts, ∀ r ∈ t.refs, r.1 = 2 → 0 ≤ r.2 ∧ r.2 < (m : Int) := fun t ht => by rw [← hmm]; exact fits_lt (m3 t ht)
  obtain ⟨wB, hwB⟩ : ∃ wB, (w.alloc (.cells #[tv, rv] 27)).alloc (.cells #[.slice none 0 0, .slice none 0 0] 27) = wB := ⟨_, rfl⟩
  have tB : Tn No w wB := by rw [← hwB]; exact ((Tn.refl No w).alloc _).alloc _
  have sB : wB.heap.size = w.heap.size + 2 := by rw [← hwB]; simp
  have bB : wB.heap[w.heap.size]? = some (.cells #[tv, rv] 27 (0, 0)) := by
    rw [← hwB, Below.heap_alloc _ _ _ (by simp)]; exact heap_alloc_new w _
  have bR : wB.heap[w.heap.size + 1]? = some (.cells #[.slice none 0 0, .slice none 0 0] 27 (0, 0)) := by
    have := heap_alloc_new (w.alloc (.cells #[tv, rv] 27)) (.cells #[.slice none 0 0, .slice none 0 0] 27)
    rw [hwB] at this
    simpa using this
  have HCK : Hid (Calls Try.prog 14 #[.agg #[tv, rv]] wB fun e w' => e = .returned (.int .i64 0) ∧ (w'.cell? ⟨w.heap.size, 0, none⟩ = some tv ∧ w'.cell? ⟨w.heap.size, 1, none⟩ = some rv ∧ w.heap.size < w'.heap.size) ∧ Tn No wB w') := hid ((rCheck_raw tv rv ts rs wB (h.no tB)).mono (fun e w' ⟨he, t⟩ => by
    rw [hm] at he
    have z := t.size
    exact ⟨he, ⟨by rw [t.cell (by omega) (fun e => e)]; simp only [World.cell?, bB]; rfl, by rw [t.cell (by omega) (fun e => e)]; simp only [World.cell?, bB]; rfl, by omega⟩, t⟩))
  have hros : ∀ r ∈ rs.map (renR (Hp.cs (Hp.meet [] (rs.map vOf)))), i64ok r.1 ∧ i64ok r.2 := by
    intro r hr
    obtain ⟨x, hx, rfl⟩ := List.mem_map.1 hr
    unfold renR
    split
    · rename_i e2
      have emr : meetRs [] rs = Hp.cs (Hp.meet [] (rs.map vOf)) := meetRs_cast rs [] ok1
      rw [← emr]
      have hb := Hp.pos_lt (meetRs_has [] rs x hx e2)
      obtain ⟨m, em, hmm⟩ := meetRs_more [] rs
      rw [em] at hb ⊢
      simp only [List.nil_append] at hb ⊢
      simp only [i64ok]
      omega
    · exact h.rok x hx
  have HTA : Hid (∀ (k : Nat) (t : Th), ts[k]? = some t → TA w t ∧ okT t.pl ∧ ∀ r ∈ t.refs, r.1 = 2 → 0 ≤ r.2 ∧ r.2 < (m : Int)) := hid (fun k t e => ⟨h.each t (List.mem_of_getElem? e), ok2 t (List.mem_of_getElem? e), f3 t (List.mem_of_getElem? e)⟩)
  have HMR : Hid (∀ nb W4, Tn No w W4 → w.heap.size ≤ nb → RB W4 nb m (.slice none 0 0) [] → Calls Try.prog 39 #[rv, .slice (some ⟨nb, 0, none⟩) m m, .slice none 0 0] W4 fun e w' => ∃ v mv', e = .returned (.tuple #[v, mv']) ∧ Rn2 W4 nb m (.slice none 0 0) [] rs v w' mv') := hid (fun nb W4 t hnb hra => rmeet_raw rv rs nb m (.slice none 0 0) [] w W4 h.roots t hrl (by omega) f1 (fun g hg => by
    rcases hg with rfl | hg
    · exact hnb
    · cases hg) hra (by simp))
  have HOK1 := hid ok1
  obtain ⟨C, hCs, hmk⟩ := made_room m (by omega)
  obtain ⟨ra, rc, hrv, _⟩ := h.roots
  obtain ⟨ta, tc, htv, hct, hcm, hat⟩ := h.things
  have HAT := hid hat
  have HM := hid hmm
  have HMAY := hid hm
  have HROS := hid hros
  obtain ⟨rn, hrn⟩ : ∃ rn, rs.length = rn := ⟨_, rfl⟩
  have HRL := hid hrl
  rw [hrn] at hrv
  rw [hmm] at htv htl hct
  subst hrv htv
  have HB0 := hid bR
  have HTB := hid tB
  have HSB := hid sB
  have HCS := hid hCs
  clear h hat hm hros ok1 ok2 mb hmm bB bR tB sB m1 m2 m3 f1 f3 hrn hrl hCs
  subst hwB
  go_enter Try.func17, Try.ntmps17
  go_wp2_with (first
    | (go_at_call 14; refine HCK.out.mono ?_; rintro e wA ⟨rfl, ⟨x0, x1, x2⟩, tA⟩; have HTNA := hid tA; clear tA))
  clear HCK
  have HFL0 := hid (fl_start wA C m HCS.out)
  go_loopw [6] (fun i wr => ∃ k : Nat, k ≤ m ∧ i = .int .i64 (k : Int) ∧ Fl (wA.alloc (.cells C 3)) wA.heap.size m k wr) (fun i _ => m - (intOf i).toNat)
  case atStart => exact ⟨0, by omega, rfl, HFL0.out⟩
  case round =>
    obtain ⟨k, hk, rfl, hfl⟩ := hrel
    clear HFL0
    by_cases hlt : k < m
    · obtain ⟨u, hu⟩ := hfl.some' k hlt
      have hfz := hfl.fz k
      have hpl := hfl.lt
      have HNX := hid (hfl.next hlt)
      have hki : (k : Int) < (m : Int) := by omega
      clear hfl
      go_wp2
      go_roundw
      case rel => exact ⟨k + 1, by omega, by go_num, HNX.out⟩
      case measure => simp [intOf]; omega
    · obtain rfl : m = k := by omega
      have hsB := HSB.out
      have zA := HTNA.out.size
      have hft := hfl.tn
      have zf := hft.size
      have zfp := hfl.lt
      simp at zf
      have tw1 : Tn No w wr := ((HTB.out.then HTNA.out).alloc (.cells C 3)).trans hft (fun _ _ e => e) (fun i hi e => by omega)
      have y1 : wr.cell? ⟨w.heap.size, 1, none⟩ = some (.slice ra rn rc) := by rw [hft.cell (by simp; omega) (by omega), ((Tn.refl No wA).alloc _).cell x2 (fun e => e)]; exact x1
      have y0 : wr.cell? ⟨w.heap.size, 0, none⟩ = some (.slice ta m tc) := by rw [hft.cell (by simp; omega) (by omega), ((Tn.refl No wA).alloc _).cell x2 (fun e => e)]; exact x0
      have yz : w.heap.size < wr.heap.size := by omega
      have r0 : wr.heap[w.heap.size + 1]? = some (.cells #[.slice none 0 0, .slice none 0 0] 27 (0, 0)) := by rw [hft.block _ (by simp; omega) (by omega), ((Tn.refl No wA).alloc (.cells C 3)).block _ (by omega) (fun e => e), HTNA.out.block _ (by omega) (fun e => e)]; exact HB0.out
      obtain ⟨wF, hwF⟩ : ∃ wF, wF = wr := ⟨_, rfl⟩
      subst hwF
      obtain ⟨W4, hW4⟩ : ∃ W4, wF.alloc (.cells #[.slice none 0 0, .slice none 0 0] 27) = W4 := ⟨_, rfl⟩
      have t4 : Tn No wF W4 := by rw [← hW4]; exact (Tn.refl No wF).alloc _
      have s4 : W4.heap.size = wF.heap.size + 1 := by rw [← hW4]; simp
      have h4 : W4.heap[wF.heap.size]? = some (.cells #[.slice none 0 0, .slice none 0 0] 27 (0, 0)) := by rw [← hW4]; exact heap_alloc_new wF _
      have hrb : RB W4 wA.heap.size m (.slice none 0 0) [] := (rb_start hfl.lt hfl.fz hfl.done).no t4
      have HMC := hid (HMR.out wA.heap.size W4 (tw1.then t4) (by omega) hrb)
      have HST : Hid (∀ v mv' w5, Rn2 W4 wA.heap.size m (.slice none 0 0) [] rs v w5 mv' → ((∃ a n c, v = .slice a n c) ∧ w5.cell? ⟨wF.heap.size, 1, none⟩ = some (.slice none 0 0) ∧ w5.frozen? ⟨wF.heap.size, 1, none⟩ = false ∧ wF.heap.size < w5.heap.size ∧
          Rc2 ts rs (w.heap.size + 2) (w5.setCell ⟨wF.heap.size, 1, none⟩ v) (act2 wA.heap.size m mv' (.slice none 0 0) wF.heap.size) wA.heap.size m wF.heap.size v (rs.map (renR (Hp.cs (Hp.meet [] (rs.map vOf))))) 0 mv' (.slice none 0 0) (Hp.meet [] (rs.map vOf)) [] (w5.setCell ⟨wF.heap.size, 1, none⟩ v)) ∧
          (∀ j, j < w.heap.size + 2 → w5.heap[j]? = wF.heap[j]?) ∧ Tn No w w5 ∧ (∃ a n c, mv' = .slice a n c) ∧ (∀ k, RO2 wA.heap.size m mv' k → wA.heap.size ≤ k)) := hid (fun v mv' w5 hrn => by
        have hu := hrn.up
        refine ⟨rc2_start HOK1.out (by omega) (by omega) (by omega) (by simp only [World.cell?, h4]; rfl) (by simp only [World.cell?, h4]; rfl) (fun j => by simp only [World.frozen?, h4]; simp) hrn, fun j hj => ?_, ?_, ?_, ?_⟩
        · rw [hu.tn.block j (by omega) (fun e => by
            rcases e with e | e
            · omega
            · cases e), t4.block j (by omega) (fun e => e)]
        · exact (tw1.then t4).trans hu.tn (fun _ _ e => e) (fun i hi e => by
            rcases e with e | e
            · omega
            · cases e)
        · obtain ⟨a, c, e, _⟩ := hrn.ra.met.rw.form
          exact ⟨a, _, c, e⟩
        · intro k e
          rcases hu.own k e with e | e
          · rcases e with e | e
            · omega
            · cases e
          · omega)
      have HTW1 := hid tw1
      have HR0 := hid r0
      have hcbn : w.heap.size + 1 < wA.heap.size := by omega
      have hcbw : wA.heap.size < wF.heap.size := by omega
      clear hfl hft zf zfp tw1 r0 hrb t4 s4 h4 HMR x0 x1 x2 hk
      subst hW4
      go_wp2_with (first
        | (go_at_call 39; refine HMC.out.mono ?_; rintro e w5 ⟨v5, mv5, rfl, hrn5⟩; obtain ⟨⟨⟨va, vn, vk, rfl⟩, z0, z1, z2, hrc⟩, hold, tw5, ⟨ma, mn, mc, rfl⟩, hro⟩ := HST.out _ _ _ hrn5; have HRC := hid hrc; have HOLD := hid hold; have HTW5 := hid tw5; have HRO := hid hro; clear hrc hold tw5 hro hrn5))
      clear HMC HST
      obtain ⟨W6, hW6⟩ : ∃ W6, w5.setCell ⟨wF.heap.size, 1, none⟩ (.slice va vn vk) = W6 := ⟨_, rfl⟩
      rw [hW6] at HRC ⊢
      have HOLD6 : Hid (∀ j, j < w.heap.size + 2 → W6.heap[j]? = wF.heap[j]?) := hid (fun j hj => by
        rw [← hW6, ((Tn.refl (fun k => k = wF.heap.size) w5).set ⟨wF.heap.size, 1, none⟩ (.slice va vn vk) (fun _ => rfl)).block j (by omega) (by omega)]
        exact HOLD.out j hj)
      have HTW6 : Hid (Tn No w W6) := hid (by rw [← hW6]; exact HTW5.out.set _ _ (by intro h; simp at h; omega))
      have hs6 : wF.heap.size < W6.heap.size := by rw [← hW6]; simpa using z2
      clear hW6 HOLD HTW5 z0 z1
      go_loopw [7, 9] (fun mv i wr => ∃ (k : Nat) (tvo : Value) (row : List Nat) (out : List Th), i = .int .i64 (k : Int) ∧ Rc2 ts rs (w.heap.size + 2) W6 (act2 wA.heap.size m (.slice ma mn mc) (.slice none 0 0) wF.heap.size) wA.heap.size m wF.heap.size (.slice va vn vk) (rs.map (renR (Hp.cs (Hp.meet [] (rs.map vOf))))) k mv tvo row out wr) (fun _ i _ => m - (intOf i).toNat)
      case atStart => exact ⟨0, _, _, _, rfl, HRC.out⟩
      case round =>
        obtain ⟨k, tvo, row, out, rfl, hrc⟩ := hrel
        clear HRC
        have hlow := row_lt HMAY.out hrc.st
        obtain ⟨hr1, hr2, hr3⟩ := hlow
        have hmm := HM.out
        rw [hmm] at hr2
        have hnA : ∀ j, j < w.heap.size + 2 → ¬ act2 wA.heap.size m (.slice ma mn mc) (.slice none 0 0) wF.heap.size j := fun j hj e => by
          rcases e with e | e | e
          · have := HRO.out j e; omega
          · cases e
          · omega
        have hA : ∀ k, act2 wA.heap.size m (.slice ma mn mc) (.slice none 0 0) wF.heap.size k → w.heap.size ≤ k := fun k e => by
          rcases e with e | e | e
          · have := HRO.out k e; omega
          · cases e
          · omega
        have hup := hrc.up
        have zr := hup.tn.size
        have hold : ∀ j, j < w.heap.size + 2 → wr.heap[j]? = wF.heap[j]? := fun j hj => by
          rw [hup.tn.block j (by omega) (hnA j hj)]; exact HOLD6.out j hj
        have g0 : wr.cell? ⟨w.heap.size, 0, none⟩ = some (.slice ta m tc) := by
          have := y0
          simp only [World.cell?, hold w.heap.size (by omega)] at this ⊢
          exact this
        have hfr := Up.fresh HTW6.out hA hup
        have twr : Tn No w wr := hfr.1
        obtain ⟨na, nc, hmv, hmc, hmc2, -⟩ := hrc.ra.met.rw.form
        have hcs : (Hp.cs row).length = row.length := by simp [Hp.cs]
        rw [hcs] at hmv hmc
        have plt := hrc.ra.lt
        by_cases hlt : k < row.length
        · have hxk : row[k]? = some row[k] := List.getElem?_eq_getElem hlt
          have hx := hr1 _ (List.getElem_mem hlt)
          have hts : ts[row[k]]? = some ts[row[k]] := List.getElem?_eq_getElem hx
          obtain ⟨hta, hokt, hfit⟩ := HTA.out _ _ hts
          have hkey := hrc.ra.met.at' k (by rw [hcs]; exact hlt) 0 (by omega)
          have hkey2 : (Hp.cs row)[k]'(by rw [hcs]; exact hlt) = (row[k] : Int) := by simp [Hp.cs]
          rw [hkey2] at hkey
          have hpos : 0 < (Hp.cs row).length := by rw [hcs]; omega
          obtain ⟨g, cap, emv, hg, hcap, hcap2, hfz⟩ := hrc.ra.met.rw.pos hpos
          rw [hcs] at emv hcap
          obtain ⟨g', o', hta', hg', hcell⟩ := HAT.out (by omega)
          obtain ⟨q0, q1, q2, q3⟩ := thing_cells hcell row[k] hx
          rw [← twr.cell hg' (fun e => e)] at q0 q1 q2 q3
          obtain ⟨xa, xc, hxf⟩ := hta.form
          obtain ⟨t, htt⟩ : ∃ t, ts[row[k]] = t := ⟨_, rfl⟩
          rw [htt] at hts hta hokt hfit q0 q1 q2 q3 hxf
          obtain ⟨x, hxx⟩ : ∃ x, row[k] = x := ⟨_, rfl⟩
          rw [hxx] at hxk hts hx hkey q0 q1 q2 q3
          subst hta'
          have hlen : out.length ≤ k := by
            have := congrArg List.length hrc.nds
            rw [List.length_map] at this
            have := upto_len (Hp.nth (ts.map Th.nd)) row k
            omega
          obtain ⟨W1, hW1⟩ : ∃ W1, (wr.alloc (.cells #[.int .i64 t.kind, .int .i64 t.tag, .string t.bytes, .slice xa t.refs.length xc] 24)).drew = W1 := ⟨_, rfl⟩
          have t1 : Tn No wr W1 := by rw [← hW1]; exact ((Tn.refl No wr).alloc _).drew
          have s1 : W1.heap.size = wr.heap.size + 1 := by rw [← hW1]; exact (by simp : (wr.alloc (.cells #[.int .i64 t.kind, .int .i64 t.tag, .string t.bytes, .slice xa t.refs.length xc] 24)).heap.size = wr.heap.size + 1)
          have hh1 : W1.heap[wr.heap.size]? = some (.cells #[.int .i64 t.kind, .int .i64 t.tag, .string t.bytes, t.rv] 24 (0, 0)) := by rw [← hW1, hxf]; exact heap_alloc_new wr (.cells #[.int .i64 t.kind, .int .i64 t.tag, .string t.bytes, .slice xa t.refs.length xc] 24)
          have HCA := hid (rmeet_raw t.rv t.refs wA.heap.size m u7 (Hp.cs row) w W1 hta.refs (twr.then t1) hta.len (by omega) hfit (fun k e => hfr.2 k (.inl e)) (hrc.ra.no t1) (by rw [hcs]; omega))
          have HNX : Hid (∀ v mv2 w2, Rn2 W1 wA.heap.size m u7 (Hp.cs row) t.refs v w2 mv2 → _) := hid (fun v mv2 w2 hrn => Rc2.next hrc (by omega) hxk hts hokt ⟨hta.kind, hta.tag, hta.rok, hta.bytes, hta.len⟩ (by have := hta.len; omega) (by omega) t1 s1 hh1 hrn)
          rw [hxf] at q3 HCA
          have HNX2 : Hid (∀ v mv2 w2, Rn2 W1 wA.heap.size m u7 (Hp.cs row) t.refs v w2 mv2 → ∃ a n c, v = .slice a n c) := hid (fun v mv2 w2 hrn => by
            obtain ⟨a, c, e, _⟩ := hrn.lr.rw.form
            exact ⟨a, _, c, e⟩)
          subst emv
          simp only [vc, eI, Nat.mul_one, Nat.add_zero, List.getElem?_cons_zero] at hkey
          have HFIN : Hid (∀ k' mv2 tvo' row' out' w', Rc2 ts rs (w.heap.size + 2) W6 (act2 wA.heap.size m (.slice ma mn mc) (.slice none 0 0) wF.heap.size) wA.heap.size m wF.heap.size (.slice va vn vk) (rs.map (renR (Hp.cs (Hp.meet [] (rs.map vOf))))) k' mv2 tvo' row' out' w' → k' ≤ m) := hid (fun k' mv2 tvo' row' out' w' h => by
            have h1 := h.st.le
            have h2 := (row_lt HMAY.out h.st).2.1
            omega)
          have hki : (k : Int) < (row.length : Int) := by omega
          have hxi : (x : Int) < (m : Int) := by omega
          have hx0 : (0 : Int) ≤ (x : Int) := by omega
          have hkm : k < m := by omega
          have hb1 : w.heap.size < wr.heap.size := by omega
          have hb2 : g' < wr.heap.size := Nat.lt_of_lt_of_le hg' twr.size
          clear hmm hrc hup hlen hcell HAT HTA hokt hta hts hxk hxx htt hxf hold twr hnA hA hfr hr1 hr3 hcs hmv hpos hkey2 t1 s1 hh1 hfz hx hfit y0 y1
          obtain ⟨kind, tag, bytes, trv, refs⟩ := t
          dsimp only at q0 q1 q2 q3 hW1 HNX HCA HNX2
          subst hW1
          go_wp2_with fail
          go_region
          go_wp2_with (first
            | (go_at_call 39; refine HCA.out.mono ?_; rintro e w2 ⟨v2, mv2, rfl, hrn2⟩; obtain ⟨y0, y1, y2, y3, y4, y5, y6, y7, y8, tvo', w5', hr5, ⟨a5, n5, c5, rfl⟩, y9, y10, y11, hrc5⟩ := HNX.out _ _ _ hrn2; obtain ⟨a2, n2, c2, rfl⟩ := HNX2.out _ _ _ hrn2; have y13 := y4 3; have HR5 := hid hr5; have HRC5 := hid hrc5; have HKM := hid (HFIN.out _ _ _ _ _ _ hrc5); clear hr5 hrc5 hrn2 y4)
            | (at_builtin; refine wpList_app _ rfl _ _ _ _ rfl _ _ rfl rfl _ w5' HR5.out ?_))
          go_roundw
          case rel => exact ⟨k + 1, _, _, _, by go_num, HRC5.out⟩
          case measure => simp [intOf]; omega
        · have hke : k = row.length := by have := hrc.st.le; omega
          have r0 : wr.heap[w.heap.size + 1]? = some (.cells #[.slice none 0 0, .slice none 0 0] 27 (0, 0)) := by rw [hold _ (by omega)]; exact HR0.out
          have r1 : wr.cell? ⟨w.heap.size + 1, 0, none⟩ = some (.slice none 0 0) := by simp only [World.cell?, r0]; rfl
          have r2 : wr.cell? ⟨w.heap.size + 1, 1, none⟩ = some (.slice none 0 0) := by simp only [World.cell?, r0]; rfl
          have r3 : wr.frozen? ⟨w.heap.size + 1, 0, none⟩ = false := by simp only [World.frozen?, r0]; rfl
          have r4 : wr.frozen? ⟨w.heap.size + 1, 1, none⟩ = false := by simp only [World.frozen?, r0]; rfl
          have s0 := hrc.c0
          have s1 := hrc.c1
          have s2 := hrc.cl
          obtain ⟨hf, hcan⟩ := Rc2.fin HMAY.out (by omega) HRL.out HROS.out hrc HTW6.out hA rfl hke
          obtain ⟨hgo, htn, ho1, ho2⟩ := hf
          obtain ⟨oa, oc, hof, _⟩ := hgo.things.rw.form
          subst hof
          have HFIN : Hid (∀ a a', Made w (.slice oa out.length oc) (.slice va vn vk) out (rs.map (renR (Hp.cs (Hp.meet [] (rs.map vOf))))) ((wr.setCell ⟨w.heap.size + 1, 0, none⟩ a).setCell ⟨w.heap.size + 1, 1, none⟩ a')) := hid (fun a a' => by
            have t' : Tn (fun k => k = w.heap.size + 1) wr ((wr.setCell ⟨w.heap.size + 1, 0, none⟩ a).setCell ⟨w.heap.size + 1, 1, none⟩ a') := ((Tn.refl (fun k => k = w.heap.size + 1) wr).set _ _ (fun _ => rfl)).set _ _ (fun _ => rfl)
            exact ⟨(hgo.kept t' (fun k e => by omega)).lower (by omega), htn.trans t' (fun _ _ e => e) (fun i hi e => by omega), ho1, ho2⟩)
          have HCAN := hid hcan
          have K2 : Hid (∀ a a', ((wr.setCell ⟨w.heap.size + 1, 0, none⟩ a).setCell ⟨w.heap.size + 1, 1, none⟩ a').cell? ⟨w.heap.size + 1, 1, none⟩ = some a' ∧ (wr.setCell ⟨w.heap.size + 1, 0, none⟩ a).cell? ⟨w.heap.size + 1, 0, none⟩ = some a) := hid (fun a a' => by
            have a1 : (wr.setCell ⟨w.heap.size + 1, 0, none⟩ a).cell? ⟨w.heap.size + 1, 1, none⟩ = some (.slice none 0 0) := by rw [World.cell?_setCell_other _ _ _ _ (by simp)]; exact r2
            exact ⟨World.cell?_setCell_same _ _ _ a1, World.cell?_setCell_same _ _ _ r1⟩)
          have hne : wF.heap.size ≠ w.heap.size + 1 := by omega
          have hne2 : w.heap.size + 1 ≠ wF.heap.size := by omega
          have hb1 : w.heap.size + 1 < wr.heap.size := by omega
          subst hmv
          subst hke
          clear hmm hrc hup hold twr hnA hA hfr hr1 hr3 hcs hgo htn ho1 ho2 hcan hlt r0 HAT HTA y0 y1
          go_wp2
          refine bodyPost_ret (v := .tuple #[.agg #[.slice oa out.length oc, .slice va vn vk], .int .i64 0]) (by simp [results, Try.results17, go_sem, (K2.out _ _).1, (K2.out _ (.int .i64 0)).2]) rfl ?_
          exact ⟨_, _, _, _, rfl, HFIN.out _ _, HCAN.out⟩
end Go.Proofs.Ytlkbnjdhokjfnaa
