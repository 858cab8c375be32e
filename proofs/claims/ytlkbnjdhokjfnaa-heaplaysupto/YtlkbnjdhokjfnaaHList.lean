/-
  heap: the laws' list: values in memory of their own, with a mark behind them.
-/
import Derived.Test.YtlkbnjdhokjfnaaHGrA
namespace Go.Proofs.Ytlkbnjdhokjfnaa
set_option linter.unusedSimpArgs false
set_option linter.unusedVariables false
open Go.RowKit
attribute [local go_sem ↓] Go.wp_at_zero Go.wp_at_succ

theorem run_copy_part {P : Program} (w : World) (dT sT ty elem : TypeId) (z b o dLen dCap : Nat) (a : Addr) (n sCap : Nat) (cs : List Value) (hd : n ≤ dLen)
    (hu : P.underlying dT = some (.slice elem)) (hs : (P.info? elem).map (·.size) = some z) (hn : cs.length = n * z)
    (hsrc : ∀ j v, cs[j]? = some v → w.cell? (a.add j) = some v) (hc : ∀ j, j < cs.length → (w.cell? ⟨b, o + j, none⟩).isSome = true) (hf : ∀ j, j < cs.length → w.frozen? ⟨b, o + j, none⟩ = false) (h1 : ∀ v ∈ cs, v.oneCell' = true) :
    (Builtin.copy_ #[dT, sT] ty #[.slice (some ⟨b, o, none⟩) dLen dCap, .slice (some a) n sCap]).run P w = .ok (goInt n) (w.setCells b o cs) := by
  have hl := run_loadCells_list (P := P) w a cs hsrc
  have hst := run_storeCells_cells (P := P) b o cs 0 w (by simpa using hc) (by simpa using hf) h1
  have hm : Nat.min n dLen = n := Nat.min_eq_left hd
  cases hq : P.info? elem with
  | none => simp [hq] at hs
  | some i =>
    have hi : i.size = z := by simpa [hq] using hs
    simp [Builtin.copy_, run_underlying hu, Builtin.lenOf, Builtin.firstCells, sizeOf, typeInfo, hq, hi, hm, ← hn, hl, hst]
theorem run_copy_none2 {P : Program} (w : World) (dT sT ty elem : TypeId) (z : Nat) (d a : Option Addr) (dLen dCap sLen sCap : Nat) (hu : P.underlying dT = some (.slice elem)) (hs : (P.info? elem).map (·.size) = some z) (hn : Nat.min sLen dLen = 0) :
    (Builtin.copy_ #[dT, sT] ty #[.slice d dLen dCap, .slice a sLen sCap]).run P w = .ok (goInt 0) w := by
  cases hq : P.info? elem with
  | none => simp [hq] at hs
  | some i =>
    have hl : ∀ (x : Addr), (loadCells x 0).run P w = .ok #[] w := fun x => by simpa using run_loadCells_list (P := P) w x [] (by simp)
    cases d <;> cases a <;> simp [Builtin.copy_, run_underlying hu, Builtin.lenOf, Builtin.firstCells, sizeOf, typeInfo, hq, hn, storeCells, hl]

/-- the values' cells -/
def rcs (l : List Rf) : List Value := l.flatMap eR
theorem rcs_length (l : List Rf) : (rcs l).length = l.length * 2 := by
  induction l with
  | nil => rfl
  | cons f r ih => simp only [rcs, eR, List.flatMap_cons, List.length_append, List.length_cons, List.length_nil] at ih ⊢; omega
theorem rcs_one (l : List Rf) : ∀ v ∈ rcs l, v.oneCell' = true := by
  intro v hv
  simp only [rcs, eR, List.mem_flatMap, List.mem_cons, List.not_mem_nil, or_false] at hv
  obtain ⟨f, _, rfl | rfl⟩ := hv <;> rfl
theorem rcs_at (l : List Rf) (i : Nat) (hi : i < l.length) (j : Nat) (hj : j < 2) : (rcs l)[i * 2 + j]? = (eR l[i])[j]? := by
  induction l generalizing i with
  | nil => simp at hi
  | cons f r ih =>
    have e : rcs (f :: r) = .int .i64 f.1 :: .int .i64 f.2 :: rcs r := rfl
    rw [e]
    cases i with
    | zero =>
      match j, hj with
      | 0, _ => rfl
      | 1, _ => rfl
    | succ i =>
      have := ih i (by simpa using hi)
      rw [show (i + 1) * 2 + j = (i * 2 + j) + 1 + 1 by omega]
      simp only [List.getElem?_cons_succ, List.getElem_cons_succ]
      exact this

/-- values that are one's own, with the mark behind them -/
structure Mkd (w : World) (v : Value) (l : List Rf) (g : Nat) : Prop where
  eq : v = .slice (some ⟨g, 0, none⟩) l.length (l.length + 1)
  lr : LR 2 eR w v l
  mark : w.cell? ⟨g, l.length * 2 + 1, none⟩ = some (.int .i64 77)
theorem Mkd.tn {F : Nat → Prop} {w w' : World} {v : Value} {l : List Rf} {g : Nat} (h : Mkd w v l g) (t : Tn F w w') (hn : ¬ F g) : Mkd w' v l g := by
  have ho : v.ownBlock = some g := by rw [h.eq]; rfl
  have hg := h.lr.rw.lt g ho
  exact ⟨h.eq, h.lr.tn t (fun k hk => by rw [ho] at hk; cases hk; exact hn), by rw [t.cell hg hn]; exact h.mark⟩
theorem Mkd.no {w w' : World} {v : Value} {l : List Rf} {g : Nat} (h : Mkd w v l g) (t : Tn No w w') : Mkd w' v l g := h.tn t (fun e => e)

/-- room for one more, and the copy -/
theorem list_room (W : World) (v : Value) (l : List Rf) (h : LD 2 eR W v l) (hl : l.length ≤ 1073741824) :
    ∃ C : Array Value, (∀ w, (Instr.makeSlice 22 (.int .i64 ((l.length : Int) + 1)) (.int .i64 ((l.length : Int) + 1))).run Try.prog w = .ok (.slice (some ⟨w.heap.size, 0, none⟩) (l.length + 1) (l.length + 1)) (w.alloc (.cells C 61))) ∧
      ∃ W3, (Builtin.copy_ #[22, 22] 3 #[.slice (some ⟨W.heap.size, 0, none⟩) (l.length + 1) (l.length + 1), v]).run Try.prog (W.alloc (.cells C 61)) = .ok (.int .i64 (l.length : Int)) W3 ∧
        W.heap.size < W3.heap.size ∧ Tn No W W3 ∧ (∃ u, W3.cell? ⟨W.heap.size, l.length * 2 + 1, none⟩ = some u) ∧ (∀ j, W3.frozen? ⟨W.heap.size, j, none⟩ = false) ∧
        Tn No W (W3.setCell ⟨W.heap.size, l.length * 2 + 1, none⟩ (.int .i64 77)) ∧ Mkd (W3.setCell ⟨W.heap.size, l.length * 2 + 1, none⟩ (.int .i64 77)) (.slice (some ⟨W.heap.size, 0, none⟩) l.length (l.length + 1)) l W.heap.size := by
  obtain ⟨i0, hi, hz0, hz1, hz2⟩ := info_parts ref_info
  obtain ⟨n, hn⟩ : ∃ n, l.length = n := ⟨_, rfl⟩
  obtain ⟨C, hC⟩ : ∃ C, madeCells #[.int .i64 0, .int .i64 0] ((n + 1) * 2) = C := ⟨_, rfl⟩
  have hCs : C.size = (n + 1) * 2 := by rw [← hC]; exact size_madeCells _ _
  rw [hn]
  have hmk : ∀ w, (Instr.makeSlice 22 (.int .i64 ((n : Int) + 1)) (.int .i64 ((n : Int) + 1))).run Try.prog w = .ok (.slice (some ⟨w.heap.size, 0, none⟩) (n + 1) (n + 1)) (w.alloc (.cells C 61)) := fun w => by
    have h := run_make (P := Try.prog) w 22 61 i0 _ Try.underlying22 hi hz0 .i64 .i64 ((n : Int) + 1) ((n : Int) + 1) (by omega) (Int.le_refl _) (by rw [hz2]; omega) (by omega)
    rw [hz1] at h
    have e : ((n : Int) + 1).toNat = n + 1 := by omega
    rw [e] at h
    rw [← hC]
    exact h
  have hcell : ∀ j, j < (n + 1) * 2 → ((W.alloc (.cells C 61)).cell? ⟨W.heap.size, 0 + j, none⟩).isSome = true := fun j hj => by
    rw [World.cell?_alloc_mark, Nat.zero_add]
    rw [Array.getElem?_eq_getElem (by omega)]; rfl
  have hfz : ∀ j, (W.alloc (.cells C 61)).frozen? ⟨W.heap.size, j, none⟩ = false := fun j => by
    simp only [World.frozen?, heap_alloc_new]
    simp
  have hlen := rcs_length l
  rw [hn] at hlen
  have t1 : Tn No W (W.alloc (.cells C 61)) := (Tn.refl No W).alloc _
  obtain ⟨W3, hW3⟩ : ∃ W3, (W.alloc (.cells C 61)).setCells W.heap.size 0 (rcs l) = W3 := ⟨_, rfl⟩
  have hs3 : W3.heap.size = W.heap.size + 1 := by rw [← hW3, (setCells_rest _ _ _ _).2.2.2]; simp
  have t3 : Tn No W W3 := by
    rw [← hW3]
    exact t1.trans (G := fun k => k = W.heap.size) ⟨(setCells_rest _ _ _ _).1, (setCells_rest _ _ _ _).2.1, (setCells_rest _ _ _ _).2.2.1, by rw [(setCells_rest _ _ _ _).2.2.2]; exact Nat.le_refl _, fun k _ hk => setCells_other _ _ _ _ _ hk⟩ (fun _ _ e => e) (fun i hi e => by omega)
  have hin := World.cell?_setCells_in W.heap.size (rcs l) 0 (W.alloc (.cells C 61)) (fun j hj => hcell j (by omega))
  have hout : ∀ j, n * 2 ≤ j → W3.cell? ⟨W.heap.size, j, none⟩ = (W.alloc (.cells C 61)).cell? ⟨W.heap.size, j, none⟩ := fun j hj => by
    rw [← hW3]
    exact World.cell?_setCells_out W.heap.size (rcs l) 0 _ _ (fun _ _ => by right; rw [hlen]; show 0 + n * 2 ≤ j; omega)
  have f3 : ∀ j, W3.frozen? ⟨W.heap.size, j, none⟩ = false := fun j => by rw [← hW3, World.frozen?_setCells]; exact hfz j
  have hsome : ∀ j, j < (n + 1) * 2 → (W3.cell? ⟨W.heap.size, j, none⟩).isSome = true := fun j hj => by
    by_cases hjn : j < n * 2
    · have := hin j (by omega)
      rw [Nat.zero_add, hW3] at this
      rw [this]; rfl
    · rw [hout j (by omega)]
      have := hcell j hj
      rw [Nat.zero_add] at this
      exact this
  obtain ⟨u, hu⟩ := Option.isSome_iff_exists.1 (hsome (n * 2 + 1) (by omega))
  refine ⟨C, hmk, W3, ?_, by omega, t3, ⟨u, hu⟩, f3, ?_, ?_⟩
  · rw [← hW3]
    obtain ⟨a, c, rfl, hc1, hc2, hat⟩ := h
    rw [hn]
    by_cases h0 : n = 0
    · subst h0
      have e : rcs l = [] := List.eq_nil_of_length_eq_zero (by omega)
      rw [e]
      exact run_copy_none2 _ _ _ _ 61 2 _ _ _ _ _ _ Try.underlying22 (by rw [hi]; simp [hz1]) (by simp)
    · obtain ⟨g, off, rfl, hg, hc⟩ := hat (by omega)
      refine run_copy_part _ _ _ _ 61 2 _ 0 (n + 1) (n + 1) ⟨g, off, none⟩ n c (rcs l) (by omega) Try.underlying22 (by rw [hi]; simp [hz1]) hlen (fun j v hv => ?_) (fun j hj => hcell j (by omega)) (fun j _ => hfz _) (rcs_one l)
      have hj := (List.getElem?_eq_some_iff.1 hv).1
      rw [hlen] at hj
      have h2 := hc (j / 2) (by omega) (j % 2) (by omega)
      have h3 := rcs_at l (j / 2) (by omega) (j % 2) (by omega)
      rw [show j / 2 * 2 + j % 2 = j by omega] at h2 h3
      rw [show (⟨g, off, none⟩ : Addr).add j = ⟨g, off + j, none⟩ by simp [Addr.add], t1.cell hg (fun e => e), h2, ← h3, hv]
  · exact t3.set _ _ (fun h => by simp at h <;> omega)
  · have hset : ∀ j, j ≠ n * 2 + 1 → (W3.setCell ⟨W.heap.size, n * 2 + 1, none⟩ (.int .i64 77)).cell? ⟨W.heap.size, j, none⟩ = W3.cell? ⟨W.heap.size, j, none⟩ := fun j hj => World.cell?_setCell_other _ _ _ _ (by simp <;> omega)
    have hsame := World.cell?_setCell_same W3 ⟨W.heap.size, n * 2 + 1, none⟩ (.int .i64 77) hu
    refine ⟨by rw [hn], ⟨.inr ⟨W.heap.size, n + 1, by rw [hn], by simp; omega, by omega, by unfold maxLen; omega, fun j hj => ⟨?_, ?_⟩⟩, fun i hi j hj => ?_⟩, by rw [hn]; exact hsame⟩
    · by_cases hj' : j = n * 2 + 1
      · subst hj'; rw [hsame]; rfl
      · rw [hset j hj']; exact hsome j hj
    · rw [World.frozen?_setCell]; exact f3 j
    · show (W3.setCell ⟨W.heap.size, n * 2 + 1, none⟩ (.int .i64 77)).cell? ⟨W.heap.size, i * 2 + j, none⟩ = (eR l[i])[j]?
      rw [hset _ (by omega), ← rcs_at l i hi j hj]
      have := hin (i * 2 + j) (by omega)
      rw [Nat.zero_add, hW3] at this
      rw [this, List.getElem?_eq_getElem]

/-- what list leaves -/
structure Lst (w : World) (v : Value) (l : List Rf) (g : Nat) (w' : World) : Prop where
  mkd : Mkd w' v l g
  new : w.heap.size ≤ g
  tn : Tn No w w'

set_option maxHeartbeats 4000000 in
set_option maxRecDepth 100000 in
theorem list_raw (v : Value) (l : List Rf) (w : World) (h : LD 2 eR w v l) (hl : l.length ≤ 1073741824) :
    Calls Try.prog 38 #[v] w fun e w' => ∃ g, e = .returned (.slice (some ⟨g, 0, none⟩) l.length (l.length + 1)) ∧ Lst w (.slice (some ⟨g, 0, none⟩) l.length (l.length + 1)) l g w' := by
  obtain ⟨C, hmk, W3, hcp, z3, t3, ⟨u, hu⟩, f3, t4, hmd⟩ := list_room w v l h hl
  obtain ⟨a, c, rfl, hc, hcm, hat⟩ := h
  obtain ⟨n, hn⟩ : ∃ n, l.length = n := ⟨_, rfl⟩
  rw [hn] at hmk hcp hu t4 hmd hl ⊢
  have HMD := hid hmd
  have HT := hid t4
  have f9 := f3 (n * 2 + 1)
  clear hat hc hcm hn hmd t4 t3 f3
  go_enter Try.func38, Try.ntmps38
  go_wp2
  go_ret
  exact ⟨_, rfl, HMD.out, Nat.le_refl _, HT.out⟩
end Go.Proofs.Ytlkbnjdhokjfnaa
