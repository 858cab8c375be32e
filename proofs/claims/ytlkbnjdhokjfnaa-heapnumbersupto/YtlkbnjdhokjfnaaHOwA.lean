/-
  heap: the laws' list: values in memory of their own, with a mark behind them.
-/
import Derived.Test.YtlkbnjdhokjfnaaHGrA
import Derived.Test.YtlkbnjdhokjfnaaHTuA
namespace Go.Proofs.Ytlkbnjdhokjfnaa
set_option linter.unusedSimpArgs false
set_option linter.unusedVariables false
open Go.RowKit
attribute [local go_sem ↓] Go.wp_at_zero Go.wp_at_succ

theorem run_copy_part {P : Program} (w : World) (dT sT ty elem : TypeId) (z b o dLen dCap : Nat) (a : Addr) (n sCap : Nat) (cs : List Value) (hd : n ≤ dLen)
    (hu : P.underlying dT = some (.slice elem)) (hs : (P.info? elem).map (·.size) = some z) (hn : cs.length = n * z)
    (hsrc : ∀ j v, cs[j]? = some v → w.cell? (a.add j) = some v) (hc : ∀ j, j < cs.length → (w.cell? ⟨b, o + j, none⟩).isSome = true) (hf : ∀ j, j < cs.length → w.frozen? ⟨b, o + j, none⟩ = false) (h1 : ∀ v ∈ cs, v.oneCell' = true) :
    (Builtin.copy_ #[dT, sT] ty #[.slice (some ⟨b, o, none⟩) dLen dCap, .slice (some a) n sCap]).run P w = .ok (goInt n) (w.setCells b o cs) := by
  have hl := run_loadCells_list (P := P) w a cs hsrc
  have hst := run_storeCells_cells (P := P) b o cs 0 w (by simpa using hc) (by simpa using hf) h1
  have hm : Nat.min n dLen = n := Nat.min_eq_left hd
  cases hq : P.info? elem with
  | none => simp [hq] at hs
  | some i =>
    have hi : i.size = z := by simpa [hq] using hs
    simp [Builtin.copy_, run_underlying hu, Builtin.lenOf, Builtin.firstCells, sizeOf, typeInfo, hq, hi, hm, ← hn, hl, hst]
theorem run_copy_none2 {P : Program} (w : World) (dT sT ty elem : TypeId) (z : Nat) (d a : Option Addr) (dLen dCap sLen sCap : Nat) (hu : P.underlying dT = some (.slice elem)) (hs : (P.info? elem).map (·.size) = some z) (hn : Nat.min sLen dLen = 0) :
    (Builtin.copy_ #[dT, sT] ty #[.slice d dLen dCap, .slice a sLen sCap]).run P w = .ok (goInt 0) w := by
  cases hq : P.info? elem with
  | none => simp [hq] at hs
  | some i =>
    have hl : ∀ (x : Addr), (loadCells x 0).run P w = .ok #[] w := fun x => by simpa using run_loadCells_list (P := P) w x [] (by simp)
    cases d <;> cases a <;> simp [Builtin.copy_, run_underlying hu, Builtin.lenOf, Builtin.firstCells, sizeOf, typeInfo, hq, hn, storeCells, hl]

/-- the values' cells -/
def rcs (l : List Rf) : List Value := l.flatMap eR
theorem rcs_length (l : List Rf) : (rcs l).length = l.length * 2 := by
  induction l with
  | nil => rfl
  | cons f r ih => simp only [rcs, eR, List.flatMap_cons, List.length_append, List.length_cons, List.length_nil] at ih ⊢; omega
theorem rcs_one (l : List Rf) : ∀ v ∈ rcs l, v.oneCell' = true := by
  intro v hv
  simp only [rcs, eR, List.mem_flatMap, List.mem_cons, List.not_mem_nil, or_false] at hv
  obtain ⟨f, _, rfl | rfl⟩ := hv <;> rfl
theorem rcs_at (l : List Rf) (i : Nat) (hi : i < l.length) (j : Nat) (hj : j < 2) : (rcs l)[i * 2 + j]? = (eR l[i])[j]? := by
  induction l generalizing i with
  | nil => simp at hi
  | cons f r ih =>
    have e : rcs (f :: r) = .int .i64 f.1 :: .int .i64 f.2 :: rcs r := rfl
    rw [e]
    cases i with
    | zero =>
      match j, hj with
      | 0, _ => rfl
      | 1, _ => rfl
    | succ i =>
      have := ih i (by simpa using hi)
      rw [show (i + 1) * 2 + j = (i * 2 + j) + 1 + 1 by omega]
      simp only [List.getElem?_cons_succ, List.getElem_cons_succ]
      exact this

/-- values that are one's own, with the mark behind them -/
structure Mkd (w : World) (v : Value) (l : List Rf) (g : Nat) : Prop where
  eq : v = .slice (some ⟨g, 0, none⟩) l.length (l.length + 1)
  lr : LR 2 eR w v l
  mark : w.cell? ⟨g, l.length * 2 + 1, none⟩ = some (.int .i64 77)
theorem Mkd.tn {F : Nat → Prop} {w w' : World} {v : Value} {l : List Rf} {g : Nat} (h : Mkd w v l g) (t : Tn F w w') (hn : ¬ F g) : Mkd w' v l g := by
  have ho : v.ownBlock = some g := by rw [h.eq]; rfl
  have hg := h.lr.rw.lt g ho
  exact ⟨h.eq, h.lr.tn t (fun k hk => by rw [ho] at hk; cases hk; exact hn), by rw [t.cell hg hn]; exact h.mark⟩
theorem Mkd.no {w w' : World} {v : Value} {l : List Rf} {g : Nat} (h : Mkd w v l g) (t : Tn No w w') : Mkd w' v l g := h.tn t (fun e => e)

/-- room for one more, and the copy -/
theorem list_room (W : World) (v : Value) (l : List Rf) (h : LD 2 eR W v l) (hl : l.length ≤ 1073741824) :
    ∃ C : Array Value, (∀ w, (Instr.makeSlice 22 (.int .i64 ((l.length : Int) + 1)) (.int .i64 ((l.length : Int) + 1))).run Try.prog w = .ok (.slice (some ⟨w.heap.size, 0, none⟩) (l.length + 1) (l.length + 1)) (w.alloc (.cells C 61))) ∧
      ∃ W3, (Builtin.copy_ #[22, 22] 3 #[.slice (some ⟨W.heap.size, 0, none⟩) (l.length + 1) (l.length + 1), v]).run Try.prog (W.alloc (.cells C 61)) = .ok (.int .i64 (l.length : Int)) W3 ∧
        W.heap.size < W3.heap.size ∧ Tn No W W3 ∧ (∃ u, W3.cell? ⟨W.heap.size, l.length * 2 + 1, none⟩ = some u) ∧ (∀ j, W3.frozen? ⟨W.heap.size, j, none⟩ = false) ∧
        Tn No W (W3.setCell ⟨W.heap.size, l.length * 2 + 1, none⟩ (.int .i64 77)) ∧ Mkd (W3.setCell ⟨W.heap.size, l.length * 2 + 1, none⟩ (.int .i64 77)) (.slice (some ⟨W.heap.size, 0, none⟩) l.length (l.length + 1)) l W.heap.size := by
  obtain ⟨i0, hi, hz0, hz1, hz2⟩ := info_parts ref_info
  obtain ⟨n, hn⟩ : ∃ n, l.length = n := ⟨_, rfl⟩
  obtain ⟨C, hC⟩ : ∃ C, madeCells #[.int .i64 0, .int .i64 0] ((n + 1) * 2) = C := ⟨_, rfl⟩
  have hCs : C.size = (n + 1) * 2 := by rw [← hC]; exact size_madeCells _ _
  rw [hn]
  have hmk : ∀ w, (Instr.makeSlice 22 (.int .i64 ((n : Int) + 1)) (.int .i64 ((n : Int) + 1))).run Try.prog w = .ok (.slice (some ⟨w.heap.size, 0, none⟩) (n + 1) (n + 1)) (w.alloc (.cells C 61)) := fun w => by
    have h := run_make (P := Try.prog) w 22 61 i0 _ Try.underlying22 hi hz0 .i64 .i64 ((n : Int) + 1) ((n : Int) + 1) (by omega) (Int.le_refl _) (by rw [hz2]; omega) (by omega)
    rw [hz1] at h
    have e : ((n : Int) + 1).toNat = n + 1 := by omega
    rw [e] at h
    rw [← hC]
    exact h
  have hcell : ∀ j, j < (n + 1) * 2 → ((W.alloc (.cells C 61)).cell? ⟨W.heap.size, 0 + j, none⟩).isSome = true := fun j hj => by
    rw [World.cell?_alloc_mark, Nat.zero_add]
    rw [Array.getElem?_eq_getElem (by omega)]; rfl
  have hfz : ∀ j, (W.alloc (.cells C 61)).frozen? ⟨W.heap.size, j, none⟩ = false := fun j => by
    simp only [World.frozen?, heap_alloc_new]
    simp
  have hlen := rcs_length l
  rw [hn] at hlen
  have t1 : Tn No W (W.alloc (.cells C 61)) := (Tn.refl No W).alloc _
  obtain ⟨W3, hW3⟩ : ∃ W3, (W.alloc (.cells C 61)).setCells W.heap.size 0 (rcs l) = W3 := ⟨_, rfl⟩
  have hs3 : W3.heap.size = W.heap.size + 1 := by rw [← hW3, (setCells_rest _ _ _ _).2.2.2]; simp
  have t3 : Tn No W W3 := by
    rw [← hW3]
    exact t1.trans (G := fun k => k = W.heap.size) ⟨(setCells_rest _ _ _ _).1, (setCells_rest _ _ _ _).2.1, (setCells_rest _ _ _ _).2.2.1, by rw [(setCells_rest _ _ _ _).2.2.2]; exact Nat.le_refl _, fun k _ hk => setCells_other _ _ _ _ _ hk⟩ (fun _ _ e => e) (fun i hi e => by omega)
  have hin := World.cell?_setCells_in W.heap.size (rcs l) 0 (W.alloc (.cells C 61)) (fun j hj => hcell j (by omega))
  have hout : ∀ j, n * 2 ≤ j → W3.cell? ⟨W.heap.size, j, none⟩ = (W.alloc (.cells C 61)).cell? ⟨W.heap.size, j, none⟩ := fun j hj => by
    rw [← hW3]
    exact World.cell?_setCells_out W.heap.size (rcs l) 0 _ _ (fun _ _ => by right; rw [hlen]; show 0 + n * 2 ≤ j; omega)
  have f3 : ∀ j, W3.frozen? ⟨W.heap.size, j, none⟩ = false := fun j => by rw [← hW3, World.frozen?_setCells]; exact hfz j
  have hsome : ∀ j, j < (n + 1) * 2 → (W3.cell? ⟨W.heap.size, j, none⟩).isSome = true := fun j hj => by
    by_cases hjn : j < n * 2
    · have := hin j (by omega)
      rw [Nat.zero_add, hW3] at this
      rw [this]; rfl
    · rw [hout j (by omega)]
      have := hcell j hj
      rw [Nat.zero_add] at this
      exact this
  obtain ⟨u, hu⟩ := Option.isSome_iff_exists.1 (hsome (n * 2 + 1) (by omega))
  refine ⟨C, hmk, W3, ?_, by omega, t3, ⟨u, hu⟩, f3, ?_, ?_⟩
  · rw [← hW3]
    obtain ⟨a, c, rfl, hc1, hc2, hat⟩ := h
    rw [hn]
    by_cases h0 : n = 0
    · subst h0
      have e : rcs l = [] := List.eq_nil_of_length_eq_zero (by omega)
      rw [e]
      exact run_copy_none2 _ _ _ _ 61 2 _ _ _ _ _ _ Try.underlying22 (by rw [hi]; simp [hz1]) (by simp)
    · obtain ⟨g, off, rfl, hg, hc⟩ := hat (by omega)
      refine run_copy_part _ _ _ _ 61 2 _ 0 (n + 1) (n + 1) ⟨g, off, none⟩ n c (rcs l) (by omega) Try.underlying22 (by rw [hi]; simp [hz1]) hlen (fun j v hv => ?_) (fun j hj => hcell j (by omega)) (fun j _ => hfz _) (rcs_one l)
      have hj := (List.getElem?_eq_some_iff.1 hv).1
      rw [hlen] at hj
      have h2 := hc (j / 2) (by omega) (j % 2) (by omega)
      have h3 := rcs_at l (j / 2) (by omega) (j % 2) (by omega)
      rw [show j / 2 * 2 + j % 2 = j by omega] at h2 h3
      rw [show (⟨g, off, none⟩ : Addr).add j = ⟨g, off + j, none⟩ by simp [Addr.add], t1.cell hg (fun e => e), h2, ← h3, hv]
  · exact t3.set _ _ (fun h => by simp at h <;> omega)
  · have hset : ∀ j, j ≠ n * 2 + 1 → (W3.setCell ⟨W.heap.size, n * 2 + 1, none⟩ (.int .i64 77)).cell? ⟨W.heap.size, j, none⟩ = W3.cell? ⟨W.heap.size, j, none⟩ := fun j hj => World.cell?_setCell_other _ _ _ _ (by simp <;> omega)
    have hsame := World.cell?_setCell_same W3 ⟨W.heap.size, n * 2 + 1, none⟩ (.int .i64 77) hu
    refine ⟨by rw [hn], ⟨.inr ⟨W.heap.size, n + 1, by rw [hn], by simp; omega, by omega, by unfold maxLen; omega, fun j hj => ⟨?_, ?_⟩⟩, fun i hi j hj => ?_⟩, by rw [hn]; exact hsame⟩
    · by_cases hj' : j = n * 2 + 1
      · subst hj'; rw [hsame]; rfl
      · rw [hset j hj']; exact hsome j hj
    · rw [World.frozen?_setCell]; exact f3 j
    · show (W3.setCell ⟨W.heap.size, n * 2 + 1, none⟩ (.int .i64 77)).cell? ⟨W.heap.size, i * 2 + j, none⟩ = (eR l[i])[j]?
      rw [hset _ (by omega), ← rcs_at l i hi j hj]
      have := hin (i * 2 + j) (by omega)
      rw [Nat.zero_add, hW3] at this
      rw [this, List.getElem?_eq_getElem]

/-- what list leaves -/
structure Lst (w : World) (v : Value) (l : List Rf) (g : Nat) (w' : World) : Prop where
  mkd : Mkd w' v l g
  new : w.heap.size ≤ g
  tn : Tn No w w'

set_option maxHeartbeats 4000000 in
set_option maxRecDepth 100000 in
theorem list_raw (v : Value) (l : List Rf) (w : World) (h : LD 2 eR w v l) (hl : l.length ≤ 1073741824) :
    Calls Try.prog 38 #[v] w fun e w' => ∃ g, e = .returned (.slice (some ⟨g, 0, none⟩) l.length (l.length + 1)) ∧ Lst w (.slice (some ⟨g, 0, none⟩) l.length (l.length + 1)) l g w' := by
  obtain ⟨C, hmk, W3, hcp, z3, t3, ⟨u, hu⟩, f3, t4, hmd⟩ := list_room w v l h hl
  obtain ⟨a, c, rfl, hc, hcm, hat⟩ := h
  obtain ⟨n, hn⟩ : ∃ n, l.length = n := ⟨_, rfl⟩
  rw [hn] at hmk hcp hu t4 hmd hl ⊢
  have HMD := hid hmd
  have HT := hid t4
  have f9 := f3 (n * 2 + 1)
  clear hat hc hcm hn hmd t4 t3 f3
  go_enter Try.func38, Try.ntmps38
  go_wp2
  go_ret
  exact ⟨_, rfl, HMD.out, Nat.le_refl _, HT.out⟩
end Go.Proofs.Ytlkbnjdhokjfnaa
namespace Go.Proofs.Ytlkbnjdhokjfnaa
set_option linter.unusedSimpArgs false
set_option linter.unusedVariables false
open Go.RowKit

/-- a graph's things being laid for themselves -/
structure Ow (lo : Nat) (w3 : World) (cb : Nat) (rvo tvo : Value) (out : List Th) (wr : World) : Prop where
  up : Up (fun x => x = cb) w3 (actm tvo cb) wr
  c0 : wr.cell? ⟨cb, 0, none⟩ = some tvo
  c1 : wr.cell? ⟨cb, 1, none⟩ = some rvo
  cf : ∀ j, wr.frozen? ⟨cb, j, none⟩ = false
  cl : cb < wr.heap.size
  tl : LR 4 eT wr tvo out
  tn : ∀ g, tvo.ownBlock = some g → lo ≤ g ∧ g ≠ cb
  each : ∀ t ∈ out, TO wr lo (actm tvo cb) t
  mkd : ∀ t ∈ out, ∃ g, Mkd wr t.rv t.refs g

theorem ow_start (lo : Nat) (w1 : World) (rvo : Value) : Ow lo (w1.alloc (.cells #[.slice none 0 0, rvo] 27)) w1.heap.size rvo (.slice none 0 0) [] (w1.alloc (.cells #[.slice none 0 0, rvo] 27)) := by
  have hh := heap_alloc_new w1 (.cells #[.slice none 0 0, rvo] 27)
  exact {
    up := (Up.refl _ _).less (fun k e => by
      rcases e with e | e
      · cases e
      · exact e)
    c0 := by simp only [World.cell?, hh]; rfl
    c1 := by simp only [World.cell?, hh]; rfl
    cf := fun j => by simp only [World.frozen?, hh]; simp
    cl := by simp
    tl := LR.nil _ _ _
    tn := fun g hg => by cases hg
    each := fun t ht => by cases ht
    mkd := fun t ht => by cases ht }

theorem Ow.push {lo : Nat} {w3 : World} {cb : Nat} {rvo tvo : Value} {out : List Th} {wr : World} (h : Ow lo w3 cb rvo tvo out wr) (hlo : lo ≤ wr.heap.size) {W : World} (tW : Tn No wr W) (t : Th) {gb : Nat} (hv : Mkd W t.rv t.refs gb) (hnew : wr.heap.size ≤ gb)
    (hT : i64ok t.kind ∧ i64ok t.tag ∧ (∀ r ∈ t.refs, i64ok r.1 ∧ i64ok r.2) ∧ t.bytes.size ≤ 1073741824 ∧ t.refs.length ≤ 1073741824) (b : Nat) (hb : ∀ j, j < 4 → W.cell? ⟨b, j, none⟩ = (eT t)[j]?) (hl : out.length + 1 ≤ 4294967296) :
    ∃ tvo' w5, (Builtin.append_ #[25, 25] 25 #[tvo, .slice (some ⟨b, 0, none⟩) 1 1]).run Try.prog W = .ok tvo' w5 ∧ (∃ a n c, tvo' = .slice a n c) ∧ w5.cell? ⟨cb, 0, none⟩ = some tvo ∧ w5.frozen? ⟨cb, 0, none⟩ = false ∧ cb < w5.heap.size ∧
      Ow lo w3 cb rvo tvo' (out ++ [t]) (w5.setCell ⟨cb, 0, none⟩ tvo') := by
  have hob : t.rv.ownBlock = some gb := by rw [hv.eq]; rfl
  have hcl := h.cl
  have zW := tW.size
  obtain ⟨tvo', w5, hrun, hlt, hou⟩ := lth_push (h.tl.no tW) t (by rw [hv.eq]; rfl) b hb hl
  have z5 := hou.tn.size
  have tcb : tvo.ownBlock ≠ some cb := fun e => (h.tn cb e).2 rfl
  have e0 : w5.cell? ⟨cb, 0, none⟩ = some tvo := by rw [hou.tn.cell (by omega) tcb, tW.cell (by omega) (fun e => e)]; exact h.c0
  have e1 : w5.cell? ⟨cb, 1, none⟩ = some rvo := by rw [hou.tn.cell (by omega) tcb, tW.cell (by omega) (fun e => e)]; exact h.c1
  have f5 : ∀ j, w5.frozen? ⟨cb, j, none⟩ = false := fun j => by rw [hou.tn.frozen (by omega) tcb, tW.frozen (by omega) (fun e => e)]; exact h.cf j
  refine ⟨tvo', w5, hrun, ?_, e0, f5 0, by omega, ?_⟩
  · obtain ⟨a, c, e, _⟩ := hlt.rw.form
    exact ⟨a, _, c, e⟩
  have tnew : ∀ g, tvo'.ownBlock = some g → lo ≤ g ∧ g ≠ cb := fun g hg => by
    rcases hou.own g hg with e | e
    · exact h.tn g e
    · exact ⟨by omega, by omega⟩
  have uo : Up (actm tvo cb) wr (actm tvo' cb) w5 := by
    refine ⟨(tW.any).trans (hou.tn.mono (fun k _ e => .inl e)) (fun _ _ e => e) (fun _ _ e => e), fun k e => ?_⟩
    rcases e with e | e
    · rcases hou.own k e with e | e
      · exact .inl (.inl e)
      · exact .inr (by omega)
    · exact .inl (.inr e)
  have uc : Up (actm tvo' cb) w5 (actm tvo' cb) (w5.setCell ⟨cb, 0, none⟩ tvo') := ⟨(Tn.refl _ w5).set _ _ (fun _ => .inr rfl), fun _ e => .inl e⟩
  have uall := uo.trans uc
  have tcell : Tn (fun k => k = cb) w5 (w5.setCell ⟨cb, 0, none⟩ tvo') := (Tn.refl (fun k => k = cb) w5).set _ _ (fun _ => rfl)
  have hgW := hv.lr.rw.lt gb hob
  have hn1 : ¬ tvo.ownBlock = some gb := fun e => by have := h.tl.rw.lt gb e; omega
  have hn2 : ¬ gb = cb := by omega
  have hmk5 := (hv.tn hou.tn hn1).tn tcell hn2
  refine { up := h.up.trans uall, c0 := World.cell?_setCell_same w5 _ _ e0, c1 := ?_, cf := fun j => by rw [World.frozen?_setCell]; exact f5 j, cl := by simp; omega, tl := ?_, tn := tnew, each := ?_, mkd := ?_ }
  · rw [World.cell?_setCell_other _ _ _ _ (by simp)]; exact e1
  · exact hlt.tn tcell (fun g hg e => (tnew g hg).2 e)
  · intro x hx
    rcases List.mem_append.1 hx with hx | hx
    · exact (h.each x hx).up uall
    · simp only [List.mem_singleton] at hx
      subst hx
      refine ⟨hmk5.lr, fun g hg => ?_, hT.1, hT.2.1, hT.2.2.1, hT.2.2.2.1, hT.2.2.2.2⟩
      rw [hob] at hg
      cases hg
      refine ⟨by omega, fun e => ?_⟩
      rcases e with e | e
      · rcases hou.own _ e with e | e
        · exact hn1 e
        · omega
      · exact hn2 e
  · intro x hx
    rcases List.mem_append.1 hx with hx | hx
    · obtain ⟨g, hg⟩ := h.mkd x hx
      have hno := ((h.each x hx).new g (by rw [hg.eq]; rfl)).2
      exact ⟨g, hg.tn uall.tn hno⟩
    · simp only [List.mem_singleton] at hx
      subst hx
      exact ⟨gb, hmk5⟩

/-- one more thing, as own lays it -/
theorem Ow.next {lo : Nat} {w3 : World} {cb : Nat} {rvo tvo : Value} {out : List Th} {wr : World} (h : Ow lo w3 cb rvo tvo out wr) (hlo : lo ≤ wr.heap.size) (t : Th) (hT : i64ok t.kind ∧ i64ok t.tag ∧ (∀ r ∈ t.refs, i64ok r.1 ∧ i64ok r.2) ∧ t.bytes.size ≤ 1073741824 ∧ t.refs.length ≤ 1073741824) (hl : out.length + 1 ≤ 4294967296)
    {w1 w2 : World} {T : TypeId} (t1 : Tn No wr w1) (s1 : w1.heap.size = wr.heap.size + 1) (hh : w1.heap[wr.heap.size]? = some (.cells #[.int .i64 t.kind, .int .i64 t.tag, .string t.bytes, t.rv] T (0, 0))) {v : Value} {gb : Nat} (hm : Lst w1 v t.refs gb w2) :
    w2.cell? ⟨wr.heap.size, 0, none⟩ = some (.int .i64 t.kind) ∧ w2.cell? ⟨wr.heap.size, 1, none⟩ = some (.int .i64 t.tag) ∧ w2.cell? ⟨wr.heap.size, 2, none⟩ = some (.string t.bytes) ∧ w2.cell? ⟨wr.heap.size, 3, none⟩ = some t.rv ∧ (∀ j, w2.frozen? ⟨wr.heap.size, j, none⟩ = false) ∧ wr.heap.size < w2.heap.size ∧
    w2.cell? ⟨cb, 0, none⟩ = some tvo ∧ cb < w2.heap.size ∧ cb ≠ wr.heap.size ∧
    ∃ tvo' w5, (Builtin.append_ #[25, 25] 25 #[tvo, .slice (some ⟨w2.heap.size, 0, none⟩) 1 1]).run Try.prog ((w2.setCell ⟨wr.heap.size, 3, none⟩ v).alloc (.cells #[.int .i64 t.kind, .int .i64 t.tag, .string t.bytes, v] 24)) = .ok tvo' w5 ∧
      (∃ a n c, tvo' = .slice a n c) ∧ w5.cell? ⟨cb, 0, none⟩ = some tvo ∧ w5.frozen? ⟨cb, 0, none⟩ = false ∧ cb < w5.heap.size ∧
      Ow lo w3 cb rvo tvo' (out ++ [⟨t.kind, t.tag, t.bytes, v, t.refs⟩]) (w5.setCell ⟨cb, 0, none⟩ tvo') := by
  have z2 := hm.tn.size
  have hcl := h.cl
  have hnw := hm.new
  have b2 : w2.heap[wr.heap.size]? = some (.cells #[.int .i64 t.kind, .int .i64 t.tag, .string t.bytes, t.rv] T (0, 0)) := by rw [hm.tn.block _ (by omega) (fun e => e)]; exact hh
  have t12 := t1.then hm.tn
  refine ⟨by simp only [World.cell?, b2]; rfl, by simp only [World.cell?, b2]; rfl, by simp only [World.cell?, b2]; rfl, by simp only [World.cell?, b2]; rfl, fun j => by simp only [World.frozen?, b2]; simp, by omega, by rw [t12.cell hcl (fun e => e)]; exact h.c0, by omega, by omega, ?_⟩
  obtain ⟨W, hW⟩ : ∃ W, (w2.setCell ⟨wr.heap.size, 3, none⟩ v).alloc (.cells #[.int .i64 t.kind, .int .i64 t.tag, .string t.bytes, v] 24) = W := ⟨_, rfl⟩
  have ts : Tn (fun k => k = wr.heap.size) w2 W := by rw [← hW]; exact ((Tn.refl (fun k => k = wr.heap.size) w2).set _ _ (fun _ => rfl)).alloc _
  have es : (w2.setCell ⟨wr.heap.size, 3, none⟩ v).heap.size = w2.heap.size := by simp
  have cW : ∀ j, W.cell? ⟨w2.heap.size, j, none⟩ = (#[Value.int .i64 t.kind, .int .i64 t.tag, .string t.bytes, v])[j]? := fun j => by rw [← hW, ← es, World.cell?_alloc_new]
  rw [hW]
  refine h.push hlo (t12.trans ts (fun _ _ e => e) (fun i hi e => by omega)) ⟨t.kind, t.tag, t.bytes, v, t.refs⟩ (hm.mkd.tn ts (by omega)) (by omega) hT w2.heap.size (fun j hj => ?_) hl
  rw [cW]
  match j, hj with
  | 0, _ => rfl
  | 1, _ => rfl
  | 2, _ => rfl
  | 3, _ => rfl

/-- a graph in memory of its own, with its marks -/
structure OwnG (w : World) (tv rv : Value) (ts : List Th) (rs : List Rf) (us : List Th) (w' : World) : Prop where
  go : GO w' w.heap.size tv rv us rs
  pl : us.map Th.pl = ts.map Th.pl
  mkd : ∀ u ∈ us, ∃ g, Mkd w' u.rv u.refs g
  mr : ∃ g, Mkd w' rv rs g
  tn : Tn No w w'
/-- the marks stand -/
structure Marks (w : World) (rv : Value) (us : List Th) (rs : List Rf) : Prop where
  mkd : ∀ u ∈ us, ∃ g, Mkd w u.rv u.refs g
  mr : ∃ g, Mkd w rv rs g
theorem Marks.no {w w' : World} {rv : Value} {us : List Th} {rs : List Rf} (h : Marks w rv us rs) (t : Tn No w w') : Marks w' rv us rs :=
  ⟨fun u hu => by obtain ⟨g, hg⟩ := h.mkd u hu; exact ⟨g, hg.no t⟩, by obtain ⟨g, hg⟩ := h.mr; exact ⟨g, hg.no t⟩⟩
theorem OwnG.marks {w : World} {tv rv : Value} {ts : List Th} {rs : List Rf} {us : List Th} {w' : World} (h : OwnG w tv rv ts rs us w') : Marks w' rv us rs := ⟨h.mkd, h.mr⟩

/-- what plain words say of one graph they say of the other -/
theorem pl_nds {us ts : List Th} (h : us.map Th.pl = ts.map Th.pl) : us.map Th.nd = ts.map Th.nd := by
  induction us generalizing ts with
  | nil => cases ts with
    | nil => rfl
    | cons t r => simp at h
  | cons u r ih => cases ts with
    | nil => simp at h
    | cons t q =>
      simp only [List.map_cons, List.cons.injEq] at h ⊢
      exact ⟨pl_nd h.1, ih h.2⟩
theorem pl_may {us ts : List Th} (h : us.map Th.pl = ts.map Th.pl) (rs : List Rf) : mayG us rs = mayG ts rs := by
  have hl : us.length = ts.length := by have := congrArg List.length h; simpa using this
  have e : ∀ (n : Nat) (us ts : List Th), us.map Th.pl = ts.map Th.pl → us.all (mayTh n) = ts.all (mayTh n) := by
    intro n us
    induction us with
    | nil => intro ts h; cases ts with
      | nil => rfl
      | cons t r => simp at h
    | cons u r ih => intro ts h; cases ts with
      | nil => simp at h
      | cons t q =>
        simp only [List.map_cons, List.cons.injEq, Th.pl, Pt.mk.injEq] at h
        obtain ⟨⟨k1, k2, k3, k4⟩, k5⟩ := h
        simp only [List.all_cons, mayTh, mayT, k1, k2, k3, k4]
        have := ih q k5
        simp only [this]
  unfold mayG
  rw [hl, e ts.length us ts h]

theorem Ow.fin {w wB w1 : World} {rvo tvo : Value} {ts out : List Th} {rs : List Rf} {gr : Nat} {wr : World} (tB : Tn No w wB) (hr : Lst wB rvo rs gr w1) (h : Ow (w.heap.size + 2) (w1.alloc (.cells #[.slice none 0 0, rvo] 27)) w1.heap.size rvo tvo out wr)
    (sB : wB.heap.size = w.heap.size + 2) (hpl : out.map Th.pl = ts.map Th.pl) (htl : out.length ≤ 1073741824) (hrl : rs.length ≤ 1073741824) (hrk : ∀ r ∈ rs, i64ok r.1 ∧ i64ok r.2) (a a' : Value) :
    OwnG w tvo rvo ts rs out ((wr.setCell ⟨w.heap.size + 1, 0, none⟩ a).setCell ⟨w.heap.size + 1, 1, none⟩ a') := by
  have z1 := hr.tn.size
  have hob : rvo.ownBlock = some gr := by rw [hr.mkd.eq]; rfl
  have hgr := hr.mkd.lr.rw.lt gr hob
  have hnw := hr.new
  have t' : Tn (fun k => k = w.heap.size + 1) wr ((wr.setCell ⟨w.heap.size + 1, 0, none⟩ a).setCell ⟨w.heap.size + 1, 1, none⟩ a') := ((Tn.refl (fun k => k = w.heap.size + 1) wr).set _ _ (fun _ => rfl)).set _ _ (fun _ => rfl)
  have m3 : Mkd (w1.alloc (.cells #[.slice none 0 0, rvo] 27)) rvo rs gr := hr.mkd.no ((Tn.refl No w1).alloc _)
  have m4 : Mkd wr rvo rs gr := m3.tn h.up.tn (by omega)
  have m5 := m4.tn t' (by omega)
  have hnr : ¬ tvo.ownBlock = some gr := fun e => by
    rcases h.up.own gr (.inl e) with e | e
    · omega
    · simp at e; omega
  have tw : Tn No w wr := (Up.fresh ((tB.then hr.tn).alloc _) (F := fun x => x = w1.heap.size) (fun k e => by omega) h.up).1
  refine ⟨⟨h.tl.tn t' (fun g hg e => by have := (h.tn g hg).1; omega), fun g hg => by have := (h.tn g hg).1; omega, fun x hx => ?_, m5.lr, fun g hg => ?_, hrk, htl, hrl⟩, hpl, fun u hu => ?_, ⟨gr, m5⟩, tw.trans t' (fun _ _ e => e) (fun i hi e => by omega)⟩
  · have hx' := h.each x hx
    refine ⟨hx'.lr.tn t' (fun g hg e => by have := (hx'.new g hg).1; omega), fun g hg => ⟨by have := (hx'.new g hg).1; omega, fun e => (hx'.new g hg).2 (.inl e)⟩, hx'.kind, hx'.tag, hx'.rok, hx'.bytes, hx'.len⟩
  · rw [hob] at hg
    cases hg
    exact ⟨by omega, hnr⟩
  · obtain ⟨g, hg⟩ := h.mkd u hu
    have := ((h.each u hu).new g (by rw [hg.eq]; rfl)).1
    exact ⟨g, hg.tn t' (by omega)⟩
end Go.Proofs.Ytlkbnjdhokjfnaa
namespace Go.Proofs.Ytlkbnjdhokjfnaa
set_option linter.unusedSimpArgs false
set_option linter.unusedVariables false
open Go.RowKit
attribute [local go_sem ↓] Go.wp_at_zero Go.wp_at_succ

set_option maxHeartbeats 8000000 in
set_option maxRecDepth 100000 in
theorem own_raw (tv rv : Value) (ts : List Th) (rs : List Rf) (w : World) (h : GA w tv rv ts rs) :
    Calls Try.prog 16 #[.agg #[tv, rv]] w fun e w' => ∃ a1 n1 c1 a2 n2 c2 us, e = .returned (.agg #[.slice a1 n1 c1, .slice a2 n2 c2]) ∧ OwnG w (.slice a1 n1 c1) (.slice a2 n2 c2) ts rs us w' := by
  have htl := h.tlen
  have hrl := h.rlen
  obtain ⟨m, hmm⟩ : ∃ m, ts.length = m := ⟨_, rfl⟩
  obtain ⟨wB, hwB⟩ : ∃ wB, (w.alloc (.cells #[tv, rv] 27)).alloc (.cells #[.slice none 0 0, .slice none 0 0] 27) = wB := ⟨_, rfl⟩
  have tB : Tn No w wB := by rw [← hwB]; exact ((Tn.refl No w).alloc _).alloc _
  have sB : wB.heap.size = w.heap.size + 2 := by rw [← hwB]; simp
  have bB : wB.heap[w.heap.size]? = some (.cells #[tv, rv] 27 (0, 0)) := by
    rw [← hwB, Below.heap_alloc _ _ _ (by simp)]; exact heap_alloc_new w _
  have bR : wB.heap[w.heap.size + 1]? = some (.cells #[.slice none 0 0, .slice none 0 0] 27 (0, 0)) := by
    have := heap_alloc_new (w.alloc (.cells #[tv, rv] 27)) (.cells #[.slice none 0 0, .slice none 0 0] 27)
    rw [hwB] at this
    simpa using this
  have HLS : Hid (Calls Try.prog 38 #[rv] wB fun e w1 => ∃ g, e = .returned (.slice (some ⟨g, 0, none⟩) rs.length (rs.length + 1)) ∧ Lst wB (.slice (some ⟨g, 0, none⟩) rs.length (rs.length + 1)) rs g w1) := hid (list_raw rv rs wB (h.roots.no tB) hrl)
  have HLT : Hid (∀ (x : Nat) (t : Th) (u : World), ts[x]? = some t → Tn No w u → Calls Try.prog 38 #[t.rv] u fun e w' => ∃ g, e = .returned (.slice (some ⟨g, 0, none⟩) t.refs.length (t.refs.length + 1)) ∧ Lst u (.slice (some ⟨g, 0, none⟩) t.refs.length (t.refs.length + 1)) t.refs g w') := hid (fun x t u e tn => list_raw t.rv t.refs u ((h.each t (List.mem_of_getElem? e)).refs.no tn) (h.each t (List.mem_of_getElem? e)).len)
  have HTA : Hid (∀ (x : Nat) (t : Th), ts[x]? = some t → TA w t) := hid (fun x t e => h.each t (List.mem_of_getElem? e))
  have HROK := hid h.rok
  obtain ⟨ra, rc, hrv, _⟩ := h.roots
  obtain ⟨ta, tc, htv, hct, hcm, hat⟩ := h.things
  have HAT := hid hat
  rw [hmm] at htv htl hct
  obtain ⟨rn, hrn⟩ : ∃ rn, rs.length = rn := ⟨_, rfl⟩
  have HRN := hid hrn
  rw [hrn] at hrv HLS hrl
  subst hrv htv
  have HTB := hid tB
  have HSB := hid sB
  have HM := hid hmm
  have HBB := hid bB
  have HBR := hid bR
  clear h hat bB bR tB sB hrn hmm
  subst hwB
  go_enter Try.func16, Try.ntmps16
  go_wp2_with (first
    | (go_at_call 38; refine HLS.out.mono ?_; rintro e w1 ⟨gr, rfl, hl1⟩; have HL1 := hid hl1; clear hl1))
  clear HLS
  go_loopw [4] (fun i wr => ∃ (j : Nat) (tvo : Value) (out : List Th), j ≤ m ∧ i = .int .i64 (j : Int) ∧ Ow (w.heap.size + 2) (w1.alloc (.cells #[.slice none 0 0, .slice (some ⟨gr, 0, none⟩) rn (rn + 1)] 27)) w1.heap.size (.slice (some ⟨gr, 0, none⟩) rn (rn + 1)) tvo out wr ∧ out.map Th.pl = (ts.take j).map Th.pl) (fun i _ => m - (intOf i).toNat)
  case atStart => exact ⟨0, _, _, by omega, rfl, ow_start _ _ _, rfl⟩
  case round =>
    obtain ⟨j, tvo, out, hj, rfl, how, hpl⟩ := hrel
    have hmm := HM.out
    have sB := HSB.out
    have z1 := HL1.out.tn.size
    have hup := how.up
    have zr := hup.tn.size
    have zr2 : w1.heap.size < wr.heap.size := by simp at zr; omega
    have zAw : w.heap.size + 1 < w1.heap.size := by omega
    have hol : out.length = j := by have := congrArg List.length hpl; simp at this; omega
    have hold : ∀ k, k < w.heap.size + 2 → wr.heap[k]? = _ := fun k hk => by
      rw [hup.tn.block k (by simp; omega) (by omega), ((Tn.refl No w1).alloc (.cells #[.slice none 0 0, .slice (some ⟨gr, 0, none⟩) rn (rn + 1)] 27)).block k (by omega) (fun e => e), HL1.out.tn.block k (by omega) (fun e => e)]
    have g0 : wr.cell? ⟨w.heap.size, 0, none⟩ = some (.slice ta m tc) := by
      simp only [World.cell?, hold w.heap.size (by omega), HBB.out]; rfl
    have twr := (Up.fresh ((HTB.out.then HL1.out.tn).alloc (.cells #[.slice none 0 0, .slice (some ⟨gr, 0, none⟩) rn (rn + 1)] 27)) (F := fun x => x = w1.heap.size) (fun k e => by omega) hup).1
    have hmi : (j : Int) ≤ (m : Int) := by omega
    by_cases hlt : j < m
    · have hxl : j < ts.length := by omega
      have hts : ts[j]? = some ts[j] := List.getElem?_eq_getElem hxl
      have hta := HTA.out _ _ hts
      obtain ⟨g', o', hta', hg', hcell⟩ := HAT.out (by omega)
      obtain ⟨q0, q1, q2, q3⟩ := thing_cells hcell j hxl
      rw [← twr.cell hg' (fun e => e)] at q0 q1 q2 q3
      obtain ⟨xa, xc, hxf⟩ := hta.form
      have hps := map_take_succ Th.pl hxl
      obtain ⟨t, htt⟩ : ∃ t, ts[j] = t := ⟨_, rfl⟩
      rw [htt] at hts hta q0 q1 q2 q3 hxf hps
      subst hta'
      obtain ⟨W1, hW1⟩ : ∃ W1, wr.alloc (.cells #[.int .i64 t.kind, .int .i64 t.tag, .string t.bytes, .slice xa t.refs.length xc] 24) = W1 := ⟨_, rfl⟩
      have t1 : Tn No wr W1 := by rw [← hW1]; exact (Tn.refl No wr).alloc _
      have s1 : W1.heap.size = wr.heap.size + 1 := by rw [← hW1]; simp
      have hh1 : W1.heap[wr.heap.size]? = some (.cells #[.int .i64 t.kind, .int .i64 t.tag, .string t.bytes, t.rv] 24 (0, 0)) := by rw [← hW1, hxf]; exact heap_alloc_new wr _
      have HCA := hid (HLT.out j t W1 hts (twr.then t1))
      have HNX : Hid (∀ v gb w2, Lst W1 v t.refs gb w2 → _) := hid (fun v gb w2 hmk => how.next (by omega) t ⟨hta.kind, hta.tag, hta.rok, hta.bytes, hta.len⟩ (by omega) t1 s1 hh1 hmk)
      have HPL : Hid (∀ v, (out ++ [(⟨t.kind, t.tag, t.bytes, v, t.refs⟩ : Th)]).map Th.pl = (ts.take (j + 1)).map Th.pl) := hid (fun v => by rw [hps, List.map_append, hpl]; rfl)
      rw [hxf] at q3 HCA
      have i4 : (j : Int) < (m : Int) := by omega
      have hb1 : w.heap.size < wr.heap.size := by omega
      have hb2 : g' < wr.heap.size := Nat.lt_of_lt_of_le hg' twr.size
      clear hmm sB z1 hup zr hold twr hxl hts hta hcell htt hxf t1 s1 hh1 how hpl hps hol HLT HAT HTA HTB HSB HBB HBR HROK HL1
      obtain ⟨kind, tag, bytes, trv, refs⟩ := t
      dsimp only at q0 q1 q2 q3 hW1 HNX HCA HPL
      subst hW1
      go_wp2_with (first
        | (go_at_call 38; refine HCA.out.mono ?_; rintro e w2 ⟨gb2, rfl, hl2⟩; obtain ⟨y0, y1, y2, y3, y4, y5, y6, y7, y8, tvo', w5, hr5, ⟨a5, n5, c5, rfl⟩, y9, y10, y11, how5⟩ := HNX.out _ _ _ hl2; have y13 := y4 3; have HR5 := hid hr5; have HOW5 := hid how5; clear hr5 how5 hl2 y4)
        | (at_builtin; refine wpList_app _ rfl _ _ _ _ rfl _ _ rfl rfl _ w5 HR5.out ?_))
      go_roundw
      case rel => exact ⟨j + 1, _, _, by omega, by go_num, HOW5.out, HPL.out _⟩
      case measure => simp [intOf]; omega
    · obtain rfl : j = m := by omega
      have c0 := how.c0
      have c1 := how.c1
      have hcl := how.cl
      have r0 : wr.heap[w.heap.size + 1]? = some (.cells #[.slice none 0 0, .slice none 0 0] 27 (0, 0)) := by rw [hold _ (by omega)]; exact HBR.out
      have r1 : wr.cell? ⟨w.heap.size + 1, 0, none⟩ = some (.slice none 0 0) := by simp only [World.cell?, r0]; rfl
      have r2 : wr.cell? ⟨w.heap.size + 1, 1, none⟩ = some (.slice none 0 0) := by simp only [World.cell?, r0]; rfl
      have r3 : wr.frozen? ⟨w.heap.size + 1, 0, none⟩ = false := by simp only [World.frozen?, r0]; rfl
      have r4 : wr.frozen? ⟨w.heap.size + 1, 1, none⟩ = false := by simp only [World.frozen?, r0]; rfl
      rw [List.take_of_length_le (by omega)] at hpl
      obtain ⟨oa, oc, hof, _⟩ := how.tl.rw.form
      rw [hol] at hof
      subst hof
      have HFIN : Hid (∀ a a', OwnG w (.slice oa j oc) (.slice (some ⟨gr, 0, none⟩) rn (rn + 1)) ts rs out ((wr.setCell ⟨w.heap.size + 1, 0, none⟩ a).setCell ⟨w.heap.size + 1, 1, none⟩ a')) := hid (fun a a' => how.fin HTB.out HL1.out sB hpl (by omega) (by rw [HRN.out]; exact hrl) HROK.out a a')
      have K2 : Hid (∀ a a', ((wr.setCell ⟨w.heap.size + 1, 0, none⟩ a).setCell ⟨w.heap.size + 1, 1, none⟩ a').cell? ⟨w.heap.size + 1, 1, none⟩ = some a' ∧ (wr.setCell ⟨w.heap.size + 1, 0, none⟩ a).cell? ⟨w.heap.size + 1, 0, none⟩ = some a) := hid (fun a a' => by
        have a1 : (wr.setCell ⟨w.heap.size + 1, 0, none⟩ a).cell? ⟨w.heap.size + 1, 1, none⟩ = some (.slice none 0 0) := by rw [World.cell?_setCell_other _ _ _ _ (by simp)]; exact r2
        exact ⟨World.cell?_setCell_same _ _ _ a1, World.cell?_setCell_same _ _ _ r1⟩)
      have hne : w1.heap.size ≠ w.heap.size + 1 := by omega
      have hne2 : w.heap.size + 1 ≠ w1.heap.size := by omega
      have hb4 : w.heap.size + 1 < wr.heap.size := by omega
      clear hmm sB z1 hup zr hold twr how hpl hol HLT HAT HTA HTB HSB HBB HBR HROK HL1 r0
      go_wp2
      refine bodyPost_ret (v := .agg #[.slice oa j oc, .slice (some ⟨gr, 0, none⟩) rn (rn + 1)]) (by simp [results, Try.results16, go_sem, (K2.out _ _).1, (K2.out _ (.int .i64 0)).2]) rfl ?_
      exact ⟨_, _, _, _, _, _, _, rfl, HFIN.out _ _⟩
end Go.Proofs.Ytlkbnjdhokjfnaa
