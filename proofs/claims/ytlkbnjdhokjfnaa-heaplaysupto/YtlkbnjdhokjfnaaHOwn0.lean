/-
  heap: the laws' own: a graph in memory of its own, under way.
-/
import Derived.Test.YtlkbnjdhokjfnaaHTuA
import Derived.Test.YtlkbnjdhokjfnaaHList
namespace Go.Proofs.Ytlkbnjdhokjfnaa
set_option linter.unusedSimpArgs false
set_option linter.unusedVariables false
open Go.RowKit

/-- a graph's things being laid for themselves -/
structure Ow (lo : Nat) (w3 : World) (cb : Nat) (rvo tvo : Value) (out : List Th) (wr : World) : Prop where
  up : Up (fun x => x = cb) w3 (actm tvo cb) wr
  c0 : wr.cell? ⟨cb, 0, none⟩ = some tvo
  c1 : wr.cell? ⟨cb, 1, none⟩ = some rvo
  cf : ∀ j, wr.frozen? ⟨cb, j, none⟩ = false
  cl : cb < wr.heap.size
  tl : LR 4 eT wr tvo out
  tn : ∀ g, tvo.ownBlock = some g → lo ≤ g ∧ g ≠ cb
  each : ∀ t ∈ out, TO wr lo (actm tvo cb) t
  mkd : ∀ t ∈ out, ∃ g, Mkd wr t.rv t.refs g

theorem ow_start (lo : Nat) (w1 : World) (rvo : Value) : Ow lo (w1.alloc (.cells #[.slice none 0 0, rvo] 27)) w1.heap.size rvo (.slice none 0 0) [] (w1.alloc (.cells #[.slice none 0 0, rvo] 27)) := by
  have hh := heap_alloc_new w1 (.cells #[.slice none 0 0, rvo] 27)
  exact {
    up := (Up.refl _ _).less (fun k e => by
      rcases e with e | e
      · cases e
      · exact e)
    c0 := by simp only [World.cell?, hh]; rfl
    c1 := by simp only [World.cell?, hh]; rfl
    cf := fun j => by simp only [World.frozen?, hh]; simp
    cl := by simp
    tl := LR.nil _ _ _
    tn := fun g hg => by cases hg
    each := fun t ht => by cases ht
    mkd := fun t ht => by cases ht }

theorem Ow.push {lo : Nat} {w3 : World} {cb : Nat} {rvo tvo : Value} {out : List Th} {wr : World} (h : Ow lo w3 cb rvo tvo out wr) (hlo : lo ≤ wr.heap.size) {W : World} (tW : Tn No wr W) (t : Th) {gb : Nat} (hv : Mkd W t.rv t.refs gb) (hnew : wr.heap.size ≤ gb)
    (hT : i64ok t.kind ∧ i64ok t.tag ∧ (∀ r ∈ t.refs, i64ok r.1 ∧ i64ok r.2) ∧ t.bytes.size ≤ 1073741824 ∧ t.refs.length ≤ 1073741824) (b : Nat) (hb : ∀ j, j < 4 → W.cell? ⟨b, j, none⟩ = (eT t)[j]?) (hl : out.length + 1 ≤ 4294967296) :
    ∃ tvo' w5, (Builtin.append_ #[25, 25] 25 #[tvo, .slice (some ⟨b, 0, none⟩) 1 1]).run Try.prog W = .ok tvo' w5 ∧ (∃ a n c, tvo' = .slice a n c) ∧ w5.cell? ⟨cb, 0, none⟩ = some tvo ∧ w5.frozen? ⟨cb, 0, none⟩ = false ∧ cb < w5.heap.size ∧
      Ow lo w3 cb rvo tvo' (out ++ [t]) (w5.setCell ⟨cb, 0, none⟩ tvo') := by
  have hob : t.rv.ownBlock = some gb := by rw [hv.eq]; rfl
  have hcl := h.cl
  have zW := tW.size
  obtain ⟨tvo', w5, hrun, hlt, hou⟩ := lth_push (h.tl.no tW) t (by rw [hv.eq]; rfl) b hb hl
  have z5 := hou.tn.size
  have tcb : tvo.ownBlock ≠ some cb := fun e => (h.tn cb e).2 rfl
  have e0 : w5.cell? ⟨cb, 0, none⟩ = some tvo := by rw [hou.tn.cell (by omega) tcb, tW.cell (by omega) (fun e => e)]; exact h.c0
  have e1 : w5.cell? ⟨cb, 1, none⟩ = some rvo := by rw [hou.tn.cell (by omega) tcb, tW.cell (by omega) (fun e => e)]; exact h.c1
  have f5 : ∀ j, w5.frozen? ⟨cb, j, none⟩ = false := fun j => by rw [hou.tn.frozen (by omega) tcb, tW.frozen (by omega) (fun e => e)]; exact h.cf j
  refine ⟨tvo', w5, hrun, ?_, e0, f5 0, by omega, ?_⟩
  · obtain ⟨a, c, e, _⟩ := hlt.rw.form
    exact ⟨a, _, c, e⟩
  have tnew : ∀ g, tvo'.ownBlock = some g → lo ≤ g ∧ g ≠ cb := fun g hg => by
    rcases hou.own g hg with e | e
    · exact h.tn g e
    · exact ⟨by omega, by omega⟩
  have uo : Up (actm tvo cb) wr (actm tvo' cb) w5 := by
    refine ⟨(tW.any).trans (hou.tn.mono (fun k _ e => .inl e)) (fun _ _ e => e) (fun _ _ e => e), fun k e => ?_⟩
    rcases e with e | e
    · rcases hou.own k e with e | e
      · exact .inl (.inl e)
      · exact .inr (by omega)
    · exact .inl (.inr e)
  have uc : Up (actm tvo' cb) w5 (actm tvo' cb) (w5.setCell ⟨cb, 0, none⟩ tvo') := ⟨(Tn.refl _ w5).set _ _ (fun _ => .inr rfl), fun _ e => .inl e⟩
  have uall := uo.trans uc
  have tcell : Tn (fun k => k = cb) w5 (w5.setCell ⟨cb, 0, none⟩ tvo') := (Tn.refl (fun k => k = cb) w5).set _ _ (fun _ => rfl)
  have hgW := hv.lr.rw.lt gb hob
  have hn1 : ¬ tvo.ownBlock = some gb := fun e => by have := h.tl.rw.lt gb e; omega
  have hn2 : ¬ gb = cb := by omega
  have hmk5 := (hv.tn hou.tn hn1).tn tcell hn2
  refine { up := h.up.trans uall, c0 := World.cell?_setCell_same w5 _ _ e0, c1 := ?_, cf := fun j => by rw [World.frozen?_setCell]; exact f5 j, cl := by simp; omega, tl := ?_, tn := tnew, each := ?_, mkd := ?_ }
  · rw [World.cell?_setCell_other _ _ _ _ (by simp)]; exact e1
  · exact hlt.tn tcell (fun g hg e => (tnew g hg).2 e)
  · intro x hx
    rcases List.mem_append.1 hx with hx | hx
    · exact (h.each x hx).up uall
    · simp only [List.mem_singleton] at hx
      subst hx
      refine ⟨hmk5.lr, fun g hg => ?_, hT.1, hT.2.1, hT.2.2.1, hT.2.2.2.1, hT.2.2.2.2⟩
      rw [hob] at hg
      cases hg
      refine ⟨by omega, fun e => ?_⟩
      rcases e with e | e
      · rcases hou.own _ e with e | e
        · exact hn1 e
        · omega
      · exact hn2 e
  · intro x hx
    rcases List.mem_append.1 hx with hx | hx
    · obtain ⟨g, hg⟩ := h.mkd x hx
      have hno := ((h.each x hx).new g (by rw [hg.eq]; rfl)).2
      exact ⟨g, hg.tn uall.tn hno⟩
    · simp only [List.mem_singleton] at hx
      subst hx
      exact ⟨gb, hmk5⟩

/-- one more thing, as own lays it -/
theorem Ow.next {lo : Nat} {w3 : World} {cb : Nat} {rvo tvo : Value} {out : List Th} {wr : World} (h : Ow lo w3 cb rvo tvo out wr) (hlo : lo ≤ wr.heap.size) (t : Th) (hT : i64ok t.kind ∧ i64ok t.tag ∧ (∀ r ∈ t.refs, i64ok r.1 ∧ i64ok r.2) ∧ t.bytes.size ≤ 1073741824 ∧ t.refs.length ≤ 1073741824) (hl : out.length + 1 ≤ 4294967296)
    {w1 w2 : World} {T : TypeId} (t1 : Tn No wr w1) (s1 : w1.heap.size = wr.heap.size + 1) (hh : w1.heap[wr.heap.size]? = some (.cells #[.int .i64 t.kind, .int .i64 t.tag, .string t.bytes, t.rv] T (0, 0))) {v : Value} {gb : Nat} (hm : Lst w1 v t.refs gb w2) :
    w2.cell? ⟨wr.heap.size, 0, none⟩ = some (.int .i64 t.kind) ∧ w2.cell? ⟨wr.heap.size, 1, none⟩ = some (.int .i64 t.tag) ∧ w2.cell? ⟨wr.heap.size, 2, none⟩ = some (.string t.bytes) ∧ w2.cell? ⟨wr.heap.size, 3, none⟩ = some t.rv ∧ (∀ j, w2.frozen? ⟨wr.heap.size, j, none⟩ = false) ∧ wr.heap.size < w2.heap.size ∧
    w2.cell? ⟨cb, 0, none⟩ = some tvo ∧ cb < w2.heap.size ∧ cb ≠ wr.heap.size ∧
    ∃ tvo' w5, (Builtin.append_ #[25, 25] 25 #[tvo, .slice (some ⟨w2.heap.size, 0, none⟩) 1 1]).run Try.prog ((w2.setCell ⟨wr.heap.size, 3, none⟩ v).alloc (.cells #[.int .i64 t.kind, .int .i64 t.tag, .string t.bytes, v] 24)) = .ok tvo' w5 ∧
      (∃ a n c, tvo' = .slice a n c) ∧ w5.cell? ⟨cb, 0, none⟩ = some tvo ∧ w5.frozen? ⟨cb, 0, none⟩ = false ∧ cb < w5.heap.size ∧
      Ow lo w3 cb rvo tvo' (out ++ [⟨t.kind, t.tag, t.bytes, v, t.refs⟩]) (w5.setCell ⟨cb, 0, none⟩ tvo') := by
  have z2 := hm.tn.size
  have hcl := h.cl
  have hnw := hm.new
  have b2 : w2.heap[wr.heap.size]? = some (.cells #[.int .i64 t.kind, .int .i64 t.tag, .string t.bytes, t.rv] T (0, 0)) := by rw [hm.tn.block _ (by omega) (fun e => e)]; exact hh
  have t12 := t1.then hm.tn
  refine ⟨by simp only [World.cell?, b2]; rfl, by simp only [World.cell?, b2]; rfl, by simp only [World.cell?, b2]; rfl, by simp only [World.cell?, b2]; rfl, fun j => by simp only [World.frozen?, b2]; simp, by omega, by rw [t12.cell hcl (fun e => e)]; exact h.c0, by omega, by omega, ?_⟩
  obtain ⟨W, hW⟩ : ∃ W, (w2.setCell ⟨wr.heap.size, 3, none⟩ v).alloc (.cells #[.int .i64 t.kind, .int .i64 t.tag, .string t.bytes, v] 24) = W := ⟨_, rfl⟩
  have ts : Tn (fun k => k = wr.heap.size) w2 W := by rw [← hW]; exact ((Tn.refl (fun k => k = wr.heap.size) w2).set _ _ (fun _ => rfl)).alloc _
  have es : (w2.setCell ⟨wr.heap.size, 3, none⟩ v).heap.size = w2.heap.size := by simp
  have cW : ∀ j, W.cell? ⟨w2.heap.size, j, none⟩ = (#[Value.int .i64 t.kind, .int .i64 t.tag, .string t.bytes, v])[j]? := fun j => by rw [← hW, ← es, World.cell?_alloc_new]
  rw [hW]
  refine h.push hlo (t12.trans ts (fun _ _ e => e) (fun i hi e => by omega)) ⟨t.kind, t.tag, t.bytes, v, t.refs⟩ (hm.mkd.tn ts (by omega)) (by omega) hT w2.heap.size (fun j hj => ?_) hl
  rw [cW]
  match j, hj with
  | 0, _ => rfl
  | 1, _ => rfl
  | 2, _ => rfl
  | 3, _ => rfl

/-- a graph in memory of its own, with its marks -/
structure OwnG (w : World) (tv rv : Value) (ts : List Th) (rs : List Rf) (us : List Th) (w' : World) : Prop where
  go : GO w' w.heap.size tv rv us rs
  pl : us.map Th.pl = ts.map Th.pl
  mkd : ∀ u ∈ us, ∃ g, Mkd w' u.rv u.refs g
  mr : ∃ g, Mkd w' rv rs g
  tn : Tn No w w'
/-- the marks stand -/
structure Marks (w : World) (rv : Value) (us : List Th) (rs : List Rf) : Prop where
  mkd : ∀ u ∈ us, ∃ g, Mkd w u.rv u.refs g
  mr : ∃ g, Mkd w rv rs g
theorem Marks.no {w w' : World} {rv : Value} {us : List Th} {rs : List Rf} (h : Marks w rv us rs) (t : Tn No w w') : Marks w' rv us rs :=
  ⟨fun u hu => by obtain ⟨g, hg⟩ := h.mkd u hu; exact ⟨g, hg.no t⟩, by obtain ⟨g, hg⟩ := h.mr; exact ⟨g, hg.no t⟩⟩
theorem OwnG.marks {w : World} {tv rv : Value} {ts : List Th} {rs : List Rf} {us : List Th} {w' : World} (h : OwnG w tv rv ts rs us w') : Marks w' rv us rs := ⟨h.mkd, h.mr⟩

/-- what plain words say of one graph they say of the other -/
theorem pl_nds {us ts : List Th} (h : us.map Th.pl = ts.map Th.pl) : us.map Th.nd = ts.map Th.nd := by
  induction us generalizing ts with
  | nil => cases ts with
    | nil => rfl
    | cons t r => simp at h
  | cons u r ih => cases ts with
    | nil => simp at h
    | cons t q =>
      simp only [List.map_cons, List.cons.injEq] at h ⊢
      exact ⟨pl_nd h.1, ih h.2⟩
theorem pl_may {us ts : List Th} (h : us.map Th.pl = ts.map Th.pl) (rs : List Rf) : mayG us rs = mayG ts rs := by
  have hl : us.length = ts.length := by have := congrArg List.length h; simpa using this
  have e : ∀ (n : Nat) (us ts : List Th), us.map Th.pl = ts.map Th.pl → us.all (mayTh n) = ts.all (mayTh n) := by
    intro n us
    induction us with
    | nil => intro ts h; cases ts with
      | nil => rfl
      | cons t r => simp at h
    | cons u r ih => intro ts h; cases ts with
      | nil => simp at h
      | cons t q =>
        simp only [List.map_cons, List.cons.injEq, Th.pl, Pt.mk.injEq] at h
        obtain ⟨⟨k1, k2, k3, k4⟩, k5⟩ := h
        simp only [List.all_cons, mayTh, mayT, k1, k2, k3, k4]
        have := ih q k5
        simp only [this]
  unfold mayG
  rw [hl, e ts.length us ts h]

theorem Ow.fin {w wB w1 : World} {rvo tvo : Value} {ts out : List Th} {rs : List Rf} {gr : Nat} {wr : World} (tB : Tn No w wB) (hr : Lst wB rvo rs gr w1) (h : Ow (w.heap.size + 2) (w1.alloc (.cells #[.slice none 0 0, rvo] 27)) w1.heap.size rvo tvo out wr)
    (sB : wB.heap.size = w.heap.size + 2) (hpl : out.map Th.pl = ts.map Th.pl) (htl : out.length ≤ 1073741824) (hrl : rs.length ≤ 1073741824) (hrk : ∀ r ∈ rs, i64ok r.1 ∧ i64ok r.2) (a a' : Value) :
    OwnG w tvo rvo ts rs out ((wr.setCell ⟨w.heap.size + 1, 0, none⟩ a).setCell ⟨w.heap.size + 1, 1, none⟩ a') := by
  have z1 := hr.tn.size
  have hob : rvo.ownBlock = some gr := by rw [hr.mkd.eq]; rfl
  have hgr := hr.mkd.lr.rw.lt gr hob
  have hnw := hr.new
  have t' : Tn (fun k => k = w.heap.size + 1) wr ((wr.setCell ⟨w.heap.size + 1, 0, none⟩ a).setCell ⟨w.heap.size + 1, 1, none⟩ a') := ((Tn.refl (fun k => k = w.heap.size + 1) wr).set _ _ (fun _ => rfl)).set _ _ (fun _ => rfl)
  have m3 : Mkd (w1.alloc (.cells #[.slice none 0 0, rvo] 27)) rvo rs gr := hr.mkd.no ((Tn.refl No w1).alloc _)
  have m4 : Mkd wr rvo rs gr := m3.tn h.up.tn (by omega)
  have m5 := m4.tn t' (by omega)
  have hnr : ¬ tvo.ownBlock = some gr := fun e => by
    rcases h.up.own gr (.inl e) with e | e
    · omega
    · simp at e; omega
  have tw : Tn No w wr := (Up.fresh ((tB.then hr.tn).alloc _) (F := fun x => x = w1.heap.size) (fun k e => by omega) h.up).1
  refine ⟨⟨h.tl.tn t' (fun g hg e => by have := (h.tn g hg).1; omega), fun g hg => by have := (h.tn g hg).1; omega, fun x hx => ?_, m5.lr, fun g hg => ?_, hrk, htl, hrl⟩, hpl, fun u hu => ?_, ⟨gr, m5⟩, tw.trans t' (fun _ _ e => e) (fun i hi e => by omega)⟩
  · have hx' := h.each x hx
    refine ⟨hx'.lr.tn t' (fun g hg e => by have := (hx'.new g hg).1; omega), fun g hg => ⟨by have := (hx'.new g hg).1; omega, fun e => (hx'.new g hg).2 (.inl e)⟩, hx'.kind, hx'.tag, hx'.rok, hx'.bytes, hx'.len⟩
  · rw [hob] at hg
    cases hg
    exact ⟨by omega, hnr⟩
  · obtain ⟨g, hg⟩ := h.mkd u hu
    have := ((h.each u hu).new g (by rw [hg.eq]; rfl)).1
    exact ⟨g, hg.tn t' (by omega)⟩
end Go.Proofs.Ytlkbnjdhokjfnaa
