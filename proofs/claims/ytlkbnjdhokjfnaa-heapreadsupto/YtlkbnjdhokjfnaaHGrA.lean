/-
  heap: graphs that are one's own; what the numbering does to values.
-/
import Derived.Test.YtlkbnjdhokjfnaaHRenamed
import Derived.BigRegion
namespace Go.Proofs.Ytlkbnjdhokjfnaa
set_option linter.unusedSimpArgs false
set_option linter.unusedVariables false
open Go.RowKit

def vOf (r : Rf) : Hp.V Nat := if r.1 = 2 then .thing r.2.toNat else .small r.2
def Th.nd (t : Th) : Hp.Nd Nat := ⟨t.kind, t.tag, t.bytes.data.toList, t.refs.map vOf⟩
def okR (r : Rf) : Prop := r.1 = 1 ∨ (r.1 = 2 ∧ 0 ≤ r.2)
theorem vOf_inj {r s : Rf} (hr : okR r) (hs : okR s) (e : vOf r = vOf s) : r = s := by
  obtain ⟨a, x⟩ := r
  obtain ⟨b, y⟩ := s
  simp only [okR] at hr hs
  simp only [vOf] at e
  split at e <;> split at e
  · rename_i h1 h2; simp only [Hp.V.thing.injEq] at e; simp only [Prod.mk.injEq]; omega
  · cases e
  · cases e
  · cases e; simp only [Prod.mk.injEq, and_true]; omega
theorem map_inj_on {α β : Type} {f : α → β} {D : α → Prop} (hf : ∀ a b, D a → D b → f a = f b → a = b) : ∀ {l m : List α}, (∀ a ∈ l, D a) → (∀ a ∈ m, D a) → l.map f = m.map f → l = m
  | [], [], _, _, _ => rfl
  | [], _ :: _, _, _, e => by cases e
  | _ :: _, [], _, _, e => by cases e
  | a :: l, b :: m, ha, hb, e => by
    simp only [List.map_cons, List.cons.injEq] at e
    rw [hf a b (ha a (List.mem_cons_self ..)) (hb b (List.mem_cons_self ..)) e.1, map_inj_on hf (fun x hx => ha x (List.mem_cons_of_mem _ hx)) (fun x hx => hb x (List.mem_cons_of_mem _ hx)) e.2]
def okT (t : Pt) : Prop := ∀ r ∈ t.refs, okR r
theorem nd_inj {t u : Th} (ht : okT t.pl) (hu : okT u.pl) (e : t.nd = u.nd) : t.pl = u.pl := by
  simp only [Th.nd, Hp.Nd.mk.injEq] at e
  obtain ⟨h1, h2, h3, h4⟩ := e
  simp only [Th.pl, Pt.mk.injEq]
  exact ⟨h1, h2, WideShapes.bytes_inj h3, map_inj_on (fun a b => vOf_inj) ht hu h4⟩
theorem pl_nd {t u : Th} (e : t.pl = u.pl) : t.nd = u.nd := by
  simp only [Th.pl, Pt.mk.injEq] at e
  obtain ⟨h1, h2, h3, h4⟩ := e
  simp only [Th.nd, h1, h2, h3, h4]
theorem nds_iff {l m : List Th} (hl : ∀ t ∈ l, okT t.pl) (hm : ∀ t ∈ m, okT t.pl) : l.map Th.pl = m.map Th.pl ↔ l.map Th.nd = m.map Th.nd := by
  induction l generalizing m with
  | nil => cases m <;> simp
  | cons a l ih =>
    cases m with
    | nil => simp
    | cons b m =>
      simp only [List.map_cons, List.cons.injEq]
      rw [ih (fun x hx => hl x (List.mem_cons_of_mem _ hx)) (fun x hx => hm x (List.mem_cons_of_mem _ hx))]
      constructor
      · rintro ⟨h1, h2⟩; exact ⟨pl_nd h1, h2⟩
      · rintro ⟨h1, h2⟩; exact ⟨nd_inj (hl a (List.mem_cons_self ..)) (hm b (List.mem_cons_self ..)) h1, h2⟩
theorem rfs_iff {l m : List Rf} (hl : ∀ t ∈ l, okR t) (hm : ∀ t ∈ m, okR t) : l = m ↔ l.map vOf = m.map vOf :=
  ⟨fun e => by rw [e], fun e => map_inj_on (fun a b => vOf_inj) hl hm e⟩

theorem fits_ok {n : Nat} {r : Rf} (h : fitsR n r = true) : okR r ∧ Hp.Fits n (vOf r) := by
  obtain ⟨a, x⟩ := r
  simp only [fitsR, decide_eq_true_eq] at h
  refine ⟨?_, ?_⟩
  · simp only [okR]; omega
  · simp only [vOf]
    rcases h with ⟨rfl, h⟩ | ⟨rfl, h⟩
    · simp only [Hp.Fits, show ¬ ((1 : Int) = 2) by omega, if_false]; omega
    · simp only [Hp.Fits, if_true]; omega
theorem may_ok {ts : List Th} {rs : List Rf} (h : mayG ts rs = true) : (∀ r ∈ rs, okR r) ∧ (∀ t ∈ ts, okT t.pl) ∧ Hp.MayBe (ts.map Th.nd) (rs.map vOf) := by
  obtain ⟨h1, h2, h3⟩ := may_parts h
  have f1 : ∀ r ∈ rs, fitsR ts.length r = true := List.all_eq_true.1 h1
  have f3 : ∀ t ∈ ts, ∀ r ∈ t.refs, fitsR ts.length r = true := fun t ht => List.all_eq_true.1 (h3 t ht)
  refine ⟨fun r hr => (fits_ok (f1 r hr)).1, fun t ht r hr => (fits_ok (f3 t ht r hr)).1, ?_, ?_, ?_⟩
  · intro v hv
    obtain ⟨r, hr, rfl⟩ := List.mem_map.1 hv
    rw [List.length_map]
    exact (fits_ok (f1 r hr)).2
  · intro t ht
    obtain ⟨u, hu, rfl⟩ := List.mem_map.1 ht
    have := List.all_eq_true.1 h2 u hu
    simpa [Hp.May, Th.nd, mayT] using this
  · intro t ht v hv
    obtain ⟨u, hu, rfl⟩ := List.mem_map.1 ht
    obtain ⟨r, hr, rfl⟩ := List.mem_map.1 hv
    rw [List.length_map]
    exact (fits_ok (f3 u hu r hr)).2

theorem meetR_cast (row : List Nat) (r : Rf) (h : okR r) : meetR (Hp.cs row) r = Hp.cs (Hp.meet1 row (vOf r)) := by
  obtain ⟨a, x⟩ := r
  simp only [okR] at h
  simp only [meetR, vOf]
  by_cases e : a = 2
  · subst e
    obtain ⟨n, rfl⟩ : ∃ n : Nat, x = (n : Int) := ⟨x.toNat, by omega⟩
    simp only [if_true, Hp.meet1, meetI, Int.toNat_natCast, Hp.mem_cast]
    split
    · rfl
    · simp [Hp.cs]
  · simp only [if_neg e, Hp.meet1]
theorem meetRs_cast (l : List Rf) : ∀ (row : List Nat), (∀ r ∈ l, okR r) → meetRs (Hp.cs row) l = Hp.cs (Hp.meet row (l.map vOf)) := by
  induction l with
  | nil => intro row _; rfl
  | cons r l ih =>
    intro row h
    show meetRs (meetR (Hp.cs row) r) l = Hp.cs (Hp.meet (Hp.meet1 row (vOf r)) (l.map vOf))
    rw [meetR_cast row r (h r (List.mem_cons_self ..)), ih _ (fun x hx => h x (List.mem_cons_of_mem _ hx))]
theorem renR_cast (row : List Nat) (r : Rf) (h : okR r) : vOf (renR (Hp.cs row) r) = (vOf r).map (Hp.pos row) ∧ okR (renR (Hp.cs row) r) := by
  obtain ⟨a, x⟩ := r
  simp only [okR] at h
  simp only [renR, vOf]
  by_cases e : a = 2
  · subst e
    obtain ⟨n, rfl⟩ : ∃ n : Nat, x = (n : Int) := ⟨x.toNat, by omega⟩
    simp only [if_true, Hp.V.map, Hp.pos_cast, Int.toNat_natCast]
    exact ⟨trivial, by simp [okR]⟩
  · simp only [if_neg e, Hp.V.map]
    exact ⟨trivial, by simp only [okR]; omega⟩
theorem renRs_cast (row : List Nat) (l : List Rf) (h : ∀ r ∈ l, okR r) : (l.map (renR (Hp.cs row))).map vOf = (l.map vOf).map (Hp.V.map (Hp.pos row)) ∧ ∀ r ∈ l.map (renR (Hp.cs row)), okR r := by
  refine ⟨?_, ?_⟩
  · rw [List.map_map, List.map_map]
    apply List.map_congr_left
    intro r hr
    exact (renR_cast row r (h r hr)).1
  · intro r hr
    obtain ⟨x, hx, rfl⟩ := List.mem_map.1 hr
    exact (renR_cast row x (h x hx)).2

/-- a thing whose values are one's own, at new places that are not of A -/
structure TO (w : World) (lo : Nat) (A : Nat → Prop) (t : Th) : Prop where
  lr : LR 2 eR w t.rv t.refs
  new : ∀ g, t.rv.ownBlock = some g → lo ≤ g ∧ ¬ A g
  kind : i64ok t.kind
  tag : i64ok t.tag
  rok : ∀ r ∈ t.refs, i64ok r.1 ∧ i64ok r.2
  bytes : t.bytes.size ≤ 1073741824
  len : t.refs.length ≤ 1073741824
theorem TO.ta {w : World} {lo : Nat} {A : Nat → Prop} {t : Th} (h : TO w lo A t) : TA w t := ⟨h.lr.ld, h.kind, h.tag, h.rok, h.bytes, h.len⟩
theorem TO.up {w w' : World} {lo : Nat} {A B : Nat → Prop} {t : Th} (h : TO w lo A t) (u : Up A w B w') : TO w' lo B t := by
  obtain ⟨h1, h2⟩ := h.lr.up u (fun g hg => (h.new g hg).2)
  exact ⟨h1, fun g hg => ⟨(h.new g hg).1, h2 g hg⟩, h.kind, h.tag, h.rok, h.bytes, h.len⟩
theorem TO.less {w : World} {lo : Nat} {A B : Nat → Prop} {t : Th} (h : TO w lo A t) (hh : ∀ k, B k → A k) : TO w lo B t := ⟨h.lr, fun g hg => ⟨(h.new g hg).1, fun e => (h.new g hg).2 (hh g e)⟩, h.kind, h.tag, h.rok, h.bytes, h.len⟩

/-- a graph that is one's own, at new places -/
structure GO (w : World) (lo : Nat) (tv rv : Value) (ts : List Th) (rs : List Rf) : Prop where
  things : LR 4 eT w tv ts
  newt : ∀ g, tv.ownBlock = some g → lo ≤ g
  each : ∀ t ∈ ts, TO w lo (fun k => tv.ownBlock = some k) t
  roots : LR 2 eR w rv rs
  newr : ∀ g, rv.ownBlock = some g → lo ≤ g ∧ tv.ownBlock ≠ some g
  rok : ∀ r ∈ rs, i64ok r.1 ∧ i64ok r.2
  tlen : ts.length ≤ 1073741824
  rlen : rs.length ≤ 1073741824
theorem GO.ga {w : World} {lo : Nat} {tv rv : Value} {ts : List Th} {rs : List Rf} (h : GO w lo tv rv ts rs) : GA w tv rv ts rs := ⟨h.things.ld, fun t ht => (h.each t ht).ta, h.roots.ld, h.rok, h.tlen, h.rlen⟩
theorem GO.no {w w' : World} {lo : Nat} {tv rv : Value} {ts : List Th} {rs : List Rf} (h : GO w lo tv rv ts rs) (t : Tn No w w') : GO w' lo tv rv ts rs :=
  ⟨h.things.no t, h.newt, fun x hx => (h.each x hx).up (Up.no t), h.roots.no t, h.newr, h.rok, h.tlen, h.rlen⟩

theorem lth_push {w : World} {v : Value} {l : List Th} (h : LR 4 eT w v l) (t : Th) (hv : t.rv.oneCell' = true) (b : Nat) (hb : ∀ j, j < 4 → w.cell? ⟨b, j, none⟩ = (eT t)[j]?) (hl : l.length + 1 ≤ 4294967296) :
    ∃ v' w', (Builtin.append_ #[25, 25] 25 #[v, .slice (some ⟨b, 0, none⟩) 1 1]).run Try.prog w = .ok v' w' ∧ LR 4 eT w' v' (l ++ [t]) ∧ Ou w v w' v' := by
  obtain ⟨v', w', h1, h2, h3, h4⟩ := lr_push (size := 4) Try.underlying25 thing_info rfl (by omega) h t rfl (by
    intro u hu
    simp [eT] at hu
    rcases hu with hu | hu | hu | hu <;> subst hu <;> first | rfl | exact hv) b (fun j u hu => by
    have hj : j < 4 := by have := (List.getElem?_eq_some_iff.1 hu).1; simpa [eT] using this
    rw [hb j hj]; exact hu) (by unfold maxLen; omega) (by omega) 25
  exact ⟨v', w', h1, h2, Ou.of h3 h4⟩
end Go.Proofs.Ytlkbnjdhokjfnaa
namespace Go.Proofs.Ytlkbnjdhokjfnaa
set_option linter.unusedSimpArgs false
set_option linter.unusedVariables false
open Go.RowKit
attribute [local go_sem ↓] Go.wp_at_zero Go.wp_at_succ

/-- blocks that turn while a graph is being made -/
def act (p b : Nat) (mv tv : Value) (cb : Nat) (k : Nat) : Prop := RO p b mv k ∨ tv.ownBlock = some k ∨ k = cb

/-- a graph that is being made, i things of it -/
structure Rc (ts : List Th) (rs : List Rf) (lo : Nat) (w3 : World) (A0 : Nat → Prop) (p b cb : Nat) (rvo : Value) (ros : List Rf) (i : Nat) (mv tvo : Value) (row : List Nat) (out : List Th) (wr : World) : Prop where
  up : Up A0 w3 (act p b mv tvo cb) wr
  ra : RAI wr p b mv (Hp.cs row)
  st : Hp.Steps (Hp.nth (ts.map Th.nd)) (Hp.meet [] (rs.map vOf)) i row
  c0 : wr.cell? ⟨cb, 0, none⟩ = some tvo
  c1 : wr.cell? ⟨cb, 1, none⟩ = some rvo
  cf : ∀ j, wr.frozen? ⟨cb, j, none⟩ = false
  cl : cb < wr.heap.size
  cn : ¬ RO p b mv cb
  tl : LR 4 eT wr tvo out
  tn : ∀ g, tvo.ownBlock = some g → lo ≤ g ∧ ¬ RO p b mv g ∧ g ≠ cb
  each : ∀ t ∈ out, TO wr lo (act p b mv tvo cb) t
  nds : out.map Th.nd = Hp.upto (Hp.nth (ts.map Th.nd)) row i
  oks : ∀ t ∈ out, okT t.pl
  ro : LR 2 eR wr rvo ros
  rn : ∀ g, rvo.ownBlock = some g → lo ≤ g ∧ ¬ act p b mv tvo cb g

theorem pos_lt_cast {row : List Nat} {k : Nat} (h : k ∈ row) : Hp.pos row k < row.length := Hp.pos_lt h

/-- one more thing -/
theorem Rc.next {ts : List Th} {rs : List Rf} {lo : Nat} {w3 : World} {A0 : Nat → Prop} {p b cb : Nat} {rvo : Value} {ros : List Rf} {i : Nat} {mv tvo : Value} {row : List Nat} {out : List Th} {wr : World}
    (h : Rc ts rs lo w3 A0 p b cb rvo ros i mv tvo row out wr) (hlo : lo ≤ wr.heap.size) {k : Nat} {t : Th} (e : row[i]? = some k) (g : ts[k]? = some t) (ok : okT t.pl) (hT : i64ok t.kind ∧ i64ok t.tag ∧ (∀ r ∈ t.refs, i64ok r.1 ∧ i64ok r.2) ∧ t.bytes.size ≤ 1073741824 ∧ t.refs.length ≤ 1073741824) (hrl : row.length + t.refs.length ≤ 4294967296) (hout : out.length + 1 ≤ 4294967296)
    {w1 w2 : World} {T : TypeId} (t1 : Tn No wr w1) (s1 : w1.heap.size = wr.heap.size + 1) (hh : w1.heap[wr.heap.size]? = some (.cells #[.int .i64 t.kind, .int .i64 t.tag, .string t.bytes, t.rv] T (0, 0))) {v mv2 : Value} (hr : Rn w1 p b mv (Hp.cs row) t.refs v w2 mv2) :
    w2.cell? ⟨wr.heap.size, 0, none⟩ = some (.int .i64 t.kind) ∧ w2.cell? ⟨wr.heap.size, 1, none⟩ = some (.int .i64 t.tag) ∧ w2.cell? ⟨wr.heap.size, 2, none⟩ = some (.string t.bytes) ∧ w2.cell? ⟨wr.heap.size, 3, none⟩ = some t.rv ∧ (∀ j, w2.frozen? ⟨wr.heap.size, j, none⟩ = false) ∧ wr.heap.size < w2.heap.size ∧
    w2.cell? ⟨cb, 0, none⟩ = some tvo ∧ cb < w2.heap.size ∧ cb ≠ wr.heap.size ∧
    ∃ tvo' w5, (Builtin.append_ #[25, 25] 25 #[tvo, .slice (some ⟨w2.heap.size, 0, none⟩) 1 1]).run Try.prog ((w2.setCell ⟨wr.heap.size, 3, none⟩ v).alloc (.cells #[.int .i64 t.kind, .int .i64 t.tag, .string t.bytes, v] 24)) = .ok tvo' w5 ∧
      (∃ a n c, tvo' = .slice a n c) ∧ w5.cell? ⟨cb, 0, none⟩ = some tvo ∧ w5.frozen? ⟨cb, 0, none⟩ = false ∧ cb < w5.heap.size ∧
      Rc ts rs lo w3 A0 p b cb rvo ros (i + 1) mv2 tvo' (Hp.meet row (t.refs.map vOf)) (out ++ [⟨t.kind, t.tag, t.bytes, v, t.refs.map (renR (Hp.cs (Hp.meet row (t.refs.map vOf))))⟩]) (w5.setCell ⟨cb, 0, none⟩ tvo') := by
  have hnr : ¬ RO p b mv wr.heap.size := fun e => by have := h.ra.olt _ e; omega
  have z2 := hr.up.tn.size
  have b2 : w2.heap[wr.heap.size]? = some (.cells #[.int .i64 t.kind, .int .i64 t.tag, .string t.bytes, t.rv] T (0, 0)) := by rw [hr.up.tn.block _ (by omega) hnr]; exact hh
  have hcl := h.cl
  have hgt : (Hp.nth (ts.map Th.nd)) k = some t.nd := by simp [Hp.nth, g]
  have emr : meetRs (Hp.cs row) t.refs = Hp.cs (Hp.meet row (t.refs.map vOf)) := meetRs_cast t.refs row ok
  have hlr := hr.lr
  rw [emr] at hlr
  have hra := hr.ra
  rw [emr] at hra
  -- the row's turn
  have u2 : Up (RO p b mv) wr (RO p b mv2) w2 := (Up.no t1).trans hr.up
  have tnn2 : ∀ g, tvo.ownBlock = some g → ¬ RO p b mv2 g := fun g hg e => by
    rcases u2.own g e with e | e
    · exact (h.tn g hg).2.1 e
    · have := h.tl.rw.lt g hg; omega
  have cn2 : ¬ RO p b mv2 cb := fun e => by
    rcases u2.own _ e with e | e
    · exact h.cn e
    · omega
  have wn2 : ¬ RO p b mv2 wr.heap.size := fun e => by
    rcases hr.up.own _ e with e | e
    · exact hnr e
    · omega
  have d0 : w2.cell? ⟨cb, 0, none⟩ = some tvo := by rw [u2.tn.cell hcl h.cn]; exact h.c0
  have d1 : w2.cell? ⟨cb, 1, none⟩ = some rvo := by rw [u2.tn.cell hcl h.cn]; exact h.c1
  -- the store, the new cells
  obtain ⟨W, hW⟩ : ∃ W, (w2.setCell ⟨wr.heap.size, 3, none⟩ v).alloc (.cells #[.int .i64 t.kind, .int .i64 t.tag, .string t.bytes, v] 24) = W := ⟨_, rfl⟩
  have ts : Tn (fun k => k = wr.heap.size) w2 W := by rw [← hW]; exact ((Tn.refl (fun k => k = wr.heap.size) w2).set _ _ (fun _ => rfl)).alloc _
  have sW : W.heap.size = w2.heap.size + 1 := by rw [← hW]; simp
  have es : (w2.setCell ⟨wr.heap.size, 3, none⟩ v).heap.size = w2.heap.size := by simp
  have cW : ∀ j, W.cell? ⟨w2.heap.size, j, none⟩ = (#[Value.int .i64 t.kind, .int .i64 t.tag, .string t.bytes, v])[j]? := fun j => by rw [← hW, ← es, World.cell?_alloc_new]
  have u3 : Up (RO p b mv) wr (RO p b mv2) W := ⟨u2.tn.trans ts (fun _ _ e => e) (fun i hi e => by omega), u2.own⟩
  have u3' : Up (act p b mv tvo cb) wr (act p b mv2 tvo cb) W := u3.more (fun k => tvo.ownBlock = some k ∨ k = cb)
  have hra3 : RAI W p b mv2 (Hp.cs (Hp.meet row (t.refs.map vOf))) := hra.kept ts (fun k hk e => wn2 (by rw [← e]; exact hk))
  have htl3 : LR 4 eT W tvo out := h.tl.tn u3.tn (fun g hg => (h.tn g hg).2.1)
  have hvn : ∀ g, v.ownBlock = some g → wr.heap.size + 1 ≤ g ∧ ¬ RO p b mv2 g := fun g hg => by rw [← s1]; exact hr.new g hg
  have hlr3 : LR 2 eR W v (t.refs.map (renR (Hp.cs (Hp.meet row (t.refs.map vOf))))) := hlr.tn ts (fun g hg e => by have := (hvn g hg).1; omega)
  obtain ⟨va, vc', hvf, _⟩ := hlr3.rw.form
  obtain ⟨tvo', w5, hrun, hlt, hou⟩ := lth_push htl3 ⟨t.kind, t.tag, t.bytes, v, t.refs.map (renR (Hp.cs (Hp.meet row (t.refs.map vOf))))⟩ (by rw [hvf]; rfl) w2.heap.size (fun j hj => by
    rw [cW]
    match j, hj with
    | 0, _ => rfl
    | 1, _ => rfl
    | 2, _ => rfl
    | 3, _ => rfl) hout
  rw [hW]
  have z5 := hou.tn.size
  have tcb : tvo.ownBlock ≠ some cb := fun e => (h.tn cb e).2.2 rfl
  have e0 : w5.cell? ⟨cb, 0, none⟩ = some tvo := by rw [hou.tn.cell (by omega) tcb, ts.cell (by omega) (by omega)]; exact d0
  have e1 : w5.cell? ⟨cb, 1, none⟩ = some rvo := by rw [hou.tn.cell (by omega) tcb, ts.cell (by omega) (by omega)]; exact d1
  have f5 : ∀ j, w5.frozen? ⟨cb, j, none⟩ = false := fun j => by rw [hou.tn.frozen (by omega) tcb, ts.frozen (by omega) (by omega), u2.tn.frozen hcl h.cn]; exact h.cf j
  refine ⟨by simp only [World.cell?, b2]; rfl, by simp only [World.cell?, b2]; rfl, by simp only [World.cell?, b2]; rfl, by simp only [World.cell?, b2]; rfl, fun j => by simp only [World.frozen?, b2]; simp, by omega, d0, by omega, by omega, tvo', w5, hrun, ?_, e0, f5 0, by omega, ?_⟩
  · obtain ⟨a, c, e, _⟩ := hlt.rw.form
    exact ⟨a, _, c, e⟩
  have tnew : ∀ g, tvo'.ownBlock = some g → lo ≤ g ∧ ¬ RO p b mv2 g ∧ g ≠ cb := fun g hg => by
    rcases hou.own g hg with e | e
    · exact ⟨(h.tn g e).1, tnn2 g e, (h.tn g e).2.2⟩
    · refine ⟨by omega, fun e' => ?_, by omega⟩
      have := hra.olt g e'; omega
  have uo : Up (act p b mv2 tvo cb) W (act p b mv2 tvo' cb) w5 := by
    refine ⟨hou.tn.mono (fun k _ e => .inr (.inl e)), fun k e => ?_⟩
    rcases e with e | e | e
    · exact .inl (.inl e)
    · rcases hou.own k e with e | e
      · exact .inl (.inr (.inl e))
      · exact .inr e
    · exact .inl (.inr (.inr e))
  have uc : Up (act p b mv2 tvo' cb) w5 (act p b mv2 tvo' cb) (w5.setCell ⟨cb, 0, none⟩ tvo') := ⟨(Tn.refl _ w5).set _ _ (fun _ => .inr (.inr rfl)), fun _ e => .inl e⟩
  have uall := (u3'.trans uo).trans uc
  have tcell : Tn (fun k => k = cb) w5 (w5.setCell ⟨cb, 0, none⟩ tvo') := (Tn.refl (fun k => k = cb) w5).set _ _ (fun _ => rfl)
  refine { up := h.up.trans uall, ra := ?_, st := .succ h.st e hgt, c0 := World.cell?_setCell_same w5 _ _ e0, c1 := ?_, cf := fun j => by rw [World.frozen?_setCell]; exact f5 j, cl := by simp; omega, cn := cn2, tl := ?_, tn := tnew, each := ?_, nds := ?_, oks := ?_, ro := ?_, rn := ?_ }
  · exact (hra3.kept hou.tn (fun k hk e => tnn2 k e hk)).kept tcell (fun k hk e => cn2 (by rw [← e]; exact hk))
  · rw [World.cell?_setCell_other _ _ _ _ (by simp)]; exact e1
  · exact hlt.tn tcell (fun g hg e => (tnew g hg).2.2 e)
  · intro x hx
    rcases List.mem_append.1 hx with hx | hx
    · exact (h.each x hx).up uall
    · simp only [List.mem_singleton] at hx
      subst hx
      have hv5 : ∀ g, v.ownBlock = some g → ¬ act p b mv2 tvo' cb g := fun g hg e => by
        have hg1 := hvn g hg
        have hg2 := hlr3.rw.lt g hg
        rcases e with e | e | e
        · exact hg1.2 e
        · rcases hou.own g e with e | e
          · have := h.tl.rw.lt g e; omega
          · omega
        · omega
      refine ⟨(hlr3.tn hou.tn (fun g hg e => ?_)).tn tcell (fun g hg e => ?_), fun g hg => ⟨by have := (hvn g hg).1; omega, hv5 g hg⟩, hT.1, hT.2.1, ?_, hT.2.2.2.1, by simpa using hT.2.2.2.2⟩
      · have := h.tl.rw.lt g e; have := (hvn g hg).1; omega
      · have := (hvn g hg).1; omega
      · intro r hr'
        obtain ⟨x, hx, rfl⟩ := List.mem_map.1 hr'
        unfold renR
        split
        · rename_i e2
          have hb : Hp.pos (Hp.cs (Hp.meet row (t.refs.map vOf))) x.2 < (Hp.cs (Hp.meet row (t.refs.map vOf))).length := by
            apply Hp.pos_lt
            rw [← emr]
            exact meetRs_has _ _ x hx e2
          have hb2 : (Hp.cs (Hp.meet row (t.refs.map vOf))).length ≤ 4294967296 := by
            rw [← emr]
            obtain ⟨m, em, hm⟩ := meetRs_more (Hp.cs row) t.refs
            rw [em]; simp [Hp.cs] at hm ⊢; omega
          simp only [i64ok]
          omega
        · exact hT.2.2.1 x hx
  · rw [List.map_append, h.nds]
    have := h.st.upto e hgt
    show _ = Hp.upto _ (Hp.meet row t.nd.refs) (i + 1)
    rw [this]
    have e9 : (Th.mk t.kind t.tag t.bytes v (t.refs.map (renR (Hp.cs (Hp.meet row (t.refs.map vOf)))))).nd = t.nd.map (Hp.pos (Hp.meet row t.nd.refs)) := by
      simp only [Th.nd, Hp.Nd.map, Hp.Nd.mk.injEq, true_and]
      exact (renRs_cast (Hp.meet row (t.refs.map vOf)) t.refs ok).1
    rw [List.map_cons, List.map_nil, e9]
  · intro x hx
    rcases List.mem_append.1 hx with hx | hx
    · exact h.oks x hx
    · simp only [List.mem_singleton] at hx
      subst hx
      exact (renRs_cast (Hp.meet row (t.refs.map vOf)) t.refs ok).2
  · exact (h.ro.up uall (fun g hg => (h.rn g hg).2)).1
  · exact fun g hg => ⟨(h.rn g hg).1, (h.ro.up uall (fun g hg => (h.rn g hg).2)).2 g hg⟩
end Go.Proofs.Ytlkbnjdhokjfnaa
