/-
  Copy: what goes ahead of the walk.
-/
import Derived.Test.YtkbdgdcicflocaaClone
import Derived.Test.YtkbdgdcicflocaaOwn
import Derived.Test.YtkbdgdcicflocaaSorted
import Derived.Maps.RangeWalk
namespace Go.Proofs.Ytkbdgdcicflocaa
set_option linter.unusedSimpArgs false
set_option linter.unusedVariables false
open Go.RowKit
attribute [local go_sem ↓] Go.wp_at_zero Go.wp_at_succ

theorem PX.addEvT {w : World} {p : Nat} {L : Nat → Option Lab} {N : Nat} {S : St} {c : Nat → Value} {mo : Option Nat} {iv tv : Value} {vs : Nat → Value} (h : PX w p L N S c mo iv tv vs) (hN : N + 1 ≤ 1099511627776) (k : Int) (s : ByteArray) (xa : Option Addr) (xm xc : Nat) (xl : List UInt8) (hxb : BR w (.slice xa xm xc) xl) (hxL : ∀ g, (Value.slice xa xm xc).ownBlock = some g → L g = some (.tx S.tr.length)) (hxl : xl.length ≤ N + 1) :
    ∃ v' w', (Builtin.append_ #[69, 69] 69 #[tv, .slice (some ⟨w.heap.size, 0, none⟩) 1 1]).run Try.prog (w.alloc (.cells #[.int .i64 k, .string s, .slice xa xm xc] 87)) = .ok v' w' ∧
      w'.cell? ⟨p, 60, none⟩ = some tv ∧ w'.frozen? ⟨p, 60, none⟩ = false ∧ p < w'.heap.size ∧
      ∃ L', PX (w'.setCell ⟨p, 60, none⟩ v') p L' (N + 1) (S.addEv ⟨k, s, xl⟩) (upd c 60 v') mo iv v' (upd vs S.tr.length (.slice xa xm xc)) ∧ Tn (fun k => L k ≠ none) w (w'.setCell ⟨p, 60, none⟩ v') ∧ (∀ k, k < w.heap.size → L k = none → L' k = none) := by
  obtain ⟨i, hi, hz0, hz1, hz2⟩ := info_parts ev_info
  have hlen := h.ew.len
  have t1 : Tn No w (w.alloc (.cells #[.int .i64 k, .string s, .slice xa xm xc] 87)) := (by repeat (first | exact Tn.refl _ _ | apply Tn.drew | apply Tn.drewN | apply Tn.alloc | (refine Tn.then ?_ (by assumption)) | (refine Tn.thenNo ?_ (by assumption))))
  have hsz1 : (w.alloc (.cells #[.int .i64 k, .string s, .slice xa xm xc] 87)).heap.size = w.heap.size + 1 := by simp
  have hnew : ∀ j, (w.alloc (.cells #[.int .i64 k, .string s, .slice xa xm xc] 87)).cell? ⟨w.heap.size, j, none⟩ = (#[.int .i64 k, .string s, .slice xa xm xc] : Array Value)[j]? := fun j => World.cell?_alloc_mark w _ _ _ j
  have hx1 := h.no t1
  have hxb1 := hxb.no t1
  have hsrc : Src Try.prog 3 69 (.slice (some ⟨w.heap.size, 0, none⟩) 1 1) 1 [.int .i64 k, .string s, .slice xa xm xc] (w.alloc (.cells #[.int .i64 k, .string s, .slice xa xm xc] 87)) :=
    Src.ofSlice _ Try.underlying69 _ 1 1 _ rfl (fun j u hu => by rw [addr_add, hnew]; simpa using hu) (fun u hu => by simp at hu; rcases hu with rfl | rfl | rfl <;> rfl)
  generalize w.alloc (.cells #[.int .i64 k, .string s, .slice xa xm xc] 87) = w1 at *
  obtain ⟨v', w', hr, hrw, ho, hn, hg, hown⟩ := rw_append 69 87 i _ 3 48 Try.underlying69 hi hz0 hz1 hz2 rfl hx1.ew.rw hsrc (by unfold maxLen; omega) (by omega) (by omega)
  obtain ⟨g', cap', hv', hg', _⟩ := hrw.pos (by omega)
  have hob : v'.ownBlock = some g' := by rw [hv']; rfl
  have hg2 : L g' = some .tr ∨ g' = w1.heap.size := by
    rw [hob] at hown
    rcases hown with e | e
    · left; exact h.ew.lab g' e.symm
    · right; exact Option.some.inj e
  have hk : ∀ k, L k ≠ none → L k ≠ some .tr → w'.heap[k]? = w1.heap[k]? := fun k h1 h2 => hg.block k (hx1.lt k h1) (fun e => h2 (h.ew.lab k e.symm))
  have hne : g' ≠ p := by
    rintro rfl
    rcases hg2 with e | e
    · rw [h.labs] at e; cases e
    · have := hx1.sc.lt; omega
  have hsc := hx1.sc.kept (hk p (by rw [h.labs]; simp) (by rw [h.labs]; simp))
  have up : ∀ {k : Nat} {x : Lab}, L k = some x → upd L g' (some .tr) k = some x := fun {k x} e => by
    by_cases ek : k = g'
    · subst ek
      rw [upd_same]
      rcases hg2 with e' | e'
      · rw [e'] at e; exact e
      · have := hx1.lt k (by rw [e]; simp); omega
    · rw [upd_other _ _ ek]; exact e
  have hks : ∀ k, k ≠ p → (w'.setCell ⟨p, 60, none⟩ v').heap[k]? = w'.heap[k]? := fun k hk => Below.heap_setCell _ _ _ _ hk
  have hlp : ∀ k, L k ≠ some .st → k ≠ p := fun k h1 e => h1 (by rw [e]; exact h.labs)
  have t2 : Tn (fun k => L k ≠ none) w w' := (t1.any).grown hg (fun i e _ => by rw [h.ew.lab i e]; simp)
  refine ⟨v', w', hr, (hsc.cell 60 (by omega)).trans (by rw [h.c60]), hsc.froz 60, hsc.lt, upd L g' (some .tr), ?_, t2.own h.labs _ _, fun k hk e => ?_⟩
  · have hm := hx1.mono (Nat.le_succ N)
    refine { sc := hsc.set 60 (by omega) v', c0 := ?_, c1 := ?_, c2 := ?_, c60 := upd_same _ _ _, cd := fun i hi => ?_, pl := hm.pl, labs := up h.labs, lt := fun k hk => ?_, fm := ?_, inp := ?_, labi := fun g hg => up (h.labi g hg), rd := h.rd, ew := ?_ }
    · rw [upd_other _ _ (by omega)]; exact h.c0
    · rw [upd_other _ _ (by omega)]; exact h.c1
    · rw [upd_other _ _ (by omega)]; exact h.c2
    · rw [upd_other _ _ (by omega), upd_other _ _ (by omega), upd_other _ _ (by omega)]; exact h.cd i hi
    · have e : (w'.setCell ⟨p, 60, none⟩ v').heap.size = w'.heap.size := by simp
      rw [e]
      by_cases ek : k = g'
      · subst ek; exact hg'
      · rw [upd_other _ _ ek] at hk; exact Nat.lt_of_lt_of_le (hx1.lt k hk) hg.size
    · have := hm.fm.kept2 (w' := w'.setCell ⟨p, 60, none⟩ v') (fun k hl => by
        rcases hl with hl | ⟨n, hl⟩ <;> exact (hks k (hlp k (by rw [hl]; simp))).trans (hk k (by rw [hl]; simp) (by rw [hl]; simp)))
      rcases this with h | ⟨b, n, D, e, hn, hb, hown, hf⟩
      · exact .inl h
      · exact .inr ⟨b, n, D, e, hn, up hb, hown, fun k => ⟨(hf k).1, fun l hl => by
          obtain ⟨v, hv, hbr, hlab, hlen⟩ := (hf k).2 l hl
          exact ⟨v, hv, hbr, fun g hg => up (hlab g hg), hlen⟩⟩⟩
    · exact hx1.inp.kept (fun g hg => (hks g (hlp g (by rw [h.labi g hg]; simp))).trans (hk g (by rw [h.labi g hg]; simp) (by rw [h.labi g hg]; simp)))
    · have hkv : ∀ g, v'.ownBlock = some g → (w'.setCell ⟨p, 60, none⟩ v').heap[g]? = w'.heap[g]? := fun g hg => hks g (by rw [hob] at hg; cases hg; exact hne)
      refine ⟨?_, fun g hg => ?_, ?_, fun j e he => ?_⟩
      · have := hrw.kept hkv
        simpa [St.addEv] using this
      · rw [hob] at hg; cases hg; exact upd_same _ _ _
      · simp [St.addEv]; omega
      · have hv := fun j => vc_kept hkv j
        by_cases hj : j < S.tr.length
        · have he' : S.tr[j]? = some e := by simpa [St.addEv, List.getElem?_append_left hj] using he
          obtain ⟨a, b, c, d, f, g⟩ := hm.ew.ev j e he'
          refine ⟨by rw [hv, ho _ (by omega)]; exact a, by rw [hv, ho _ (by omega)]; exact b, ?_, ?_, fun g hg => ?_, g⟩
          · rw [hv, ho _ (by omega), upd_other _ _ (by omega)]; exact c
          · rw [upd_other _ _ (by omega)]
            exact d.kept (fun g hg => (hks g (hlp g (by rw [f g hg]; simp))).trans (hk g (by rw [f g hg]; simp) (by rw [f g hg]; simp)))
          · rw [upd_other _ _ (by omega)] at hg
            exact up (f g hg)
        · have hj2 : j = S.tr.length := by
            have := (List.getElem?_eq_some_iff.1 he).1
            simp [St.addEv] at this
            omega
          subst hj2
          have he' : e = ⟨k, s, xl⟩ := by simpa [St.addEv] using he.symm
          subst he'
          refine ⟨?_, ?_, ?_, ?_, fun g hg => ?_, hxl⟩
          · rw [hv, show 3 * S.tr.length = S.tr.length * 3 + 0 by omega, hn 0 (by simp)]; rfl
          · rw [hv, show 3 * S.tr.length + 1 = S.tr.length * 3 + 1 by omega, hn 1 (by simp)]; rfl
          · rw [hv, show 3 * S.tr.length + 2 = S.tr.length * 3 + 2 by omega, hn 2 (by simp), upd_same]; rfl
          · rw [upd_same]
            exact hxb1.kept (fun g hg => (hks g (hlp g (by rw [hxL g hg]; simp))).trans (hk g (by rw [hxL g hg]; simp) (by rw [hxL g hg]; simp)))
          · rw [upd_same] at hg
            exact up (hxL g hg)
  · rw [upd_other _ _ (by
      rintro rfl
      rcases hg2 with e' | e'
      · rw [e] at e'; cases e'
      · omega)]
    exact e

/-- a world of the program's under way: all its memory is newer than w, and none of it is block r -/
def CP (w u : World) (q r M : Nat) (S : St) : Prop := ∃ L, PW u q L M S ∧ (∀ k, L k ≠ none → w.heap.size ≤ k ∧ k ≠ r) ∧ Tn No w u ∧ r < u.heap.size
def Sides (w : World) (r : Nat) (u u' : World) : Prop := ∀ k, k < u.heap.size → (k < w.heap.size ∨ k = r) → u'.heap[k]? = u.heap[k]?

theorem CP.no {w u u' : World} {q r M : Nat} {S : St} (h : CP w u q r M S) (t : Tn No u u') : CP w u' q r M S := by
  obtain ⟨L, a, b, c, d⟩ := h
  exact ⟨L, a.no t, b, c.then t, Nat.lt_of_lt_of_le d t.size⟩
theorem CP.mono {w u : World} {q r M M' : Nat} {S : St} (h : CP w u q r M S) (hm : M ≤ M') : CP w u q r M' S := by
  obtain ⟨L, a, b⟩ := h
  exact ⟨L, a.mono hm, b⟩
theorem CP.iter {w u u' : World} {q r M : Nat} {S : St} (h : CP w u q r M S) (hr : w.heap.size ≤ r) (g : u.grownBy u' (some r)) : CP w u' q r M S := by
  obtain ⟨L, ⟨c, mo, iv, tv, vs, a⟩, b, t, d⟩ := h
  refine ⟨L, ⟨_, _, _, _, _, a.kept g.size (fun k hk => g.block k (a.lt k hk) (fun e => (b k hk).2 (Option.some.inj e)))⟩, b, t.grown g (fun i hi hl => by cases hi; omega), Nat.lt_of_lt_of_le d g.size⟩
theorem CP.own {w u : World} {q r M : Nat} {S : St} (h : CP w u q r M S) : Own w u q M S := by
  obtain ⟨L, a, b, t, _⟩ := h
  exact ⟨L, a, t, fun k hk => (b k hk).1⟩
/-- a step of it, new memory having got a name ahead of it -/
theorem CP.of {w wr u u' : World} {q r M' : Nat} {S' : St} {L L2 : Nat → Option Lab} (hb : ∀ k, L k ≠ none → w.heap.size ≤ k ∧ k ≠ r) (tw : Tn No w u) (hr : r < wr.heap.size) (hwr : w.heap.size ≤ wr.heap.size) (hs : wr.heap.size ≤ u.heap.size) (hL2 : ∀ k, L2 k ≠ none → L k ≠ none ∨ wr.heap.size ≤ k) (h : Lft u q L2 u' M' S') : CP w u' q r M' S' ∧ Sides w r u u' := by
  obtain ⟨L3, a, t, hl⟩ := h
  have h2 : ∀ k, L2 k ≠ none → w.heap.size ≤ k ∧ k ≠ r := fun k hk => by
    rcases hL2 k hk with e | e
    · exact hb k e
    · omega
  refine ⟨⟨L3, a, fun k hk => ?_, tw.trans t (fun _ _ e => e) (fun i hi e => by have := (h2 i e).1; omega), Nat.lt_of_lt_of_le (Nat.lt_of_lt_of_le hr hs) t.size⟩, fun k hk hc => t.block k hk (fun e => by have := h2 k e; omega)⟩
  rcases Nat.lt_or_ge k u.heap.size with e | e
  · exact h2 k (fun e2 => hk (hl k e e2))
  · omega

/-- a new block gets a name -/
theorem CP.name {w wr u : World} {q r M : Nat} {S : St} (h : CP w wr q r M S) (t : Tn No wr u) (v : Value) (lb : Lab) (hv : ∀ g, v.ownBlock = some g → wr.heap.size ≤ g ∧ g < u.heap.size) :
    ∃ (L L2 : Nat → Option Lab), (∀ k, L k ≠ none → w.heap.size ≤ k ∧ k ≠ r) ∧ Tn No w u ∧ r < wr.heap.size ∧ PW u q L2 M S ∧ (∀ k, L2 k ≠ none → L k ≠ none ∨ wr.heap.size ≤ k) ∧ (∀ g, v.ownBlock = some g → L2 g = some lb) ∧ w.heap.size ≤ wr.heap.size ∧ (∀ k, L k ≠ none → k < wr.heap.size) ∧ (∀ k, L2 k ≠ none → L k ≠ none ∨ v.ownBlock = some k) := by
  obtain ⟨L, a, b, c, d⟩ := h
  cases e : v.ownBlock with
  | none => exact ⟨L, L, b, c.then t, d, a.no t, fun k hk => .inl hk, fun g hg => (by cases hg), c.size, a.lt, fun k hk => .inl hk⟩
  | some g =>
    obtain ⟨h1, h2⟩ := hv g e
    have hn : L g = none := Classical.byContradiction (fun hn => by have := a.lt g hn; omega)
    have hlt := a.lt
    obtain ⟨cc, mo, iv, tv, vs, a⟩ := a
    refine ⟨L, upd L g (some lb), b, c.then t, d, ⟨_, _, _, _, _, (a.no t).name g h2 hn lb⟩, fun k hk => ?_, fun g' hg => ?_, c.size, hlt, fun k hk => ?_⟩
    · by_cases ek : k = g
      · right; omega
      · left; rwa [upd_other _ _ ek] at hk
    · cases hg; exact upd_same _ _ _
    · by_cases ek : k = g
      · right; rw [ek]
      · left; rwa [upd_other _ _ ek] at hk

theorem cp_put {w wr u : World} {q r M : Nat} {S : St} (h : CP w wr q r M S) (t : Tn No wr u) (v : Value) (l : List UInt8) (hbr : BR u v l) (hob : ∀ g, v.ownBlock = some g → wr.heap.size ≤ g) (nm : ByteArray) (hnm : nm.size ≤ maxLen) (hM : M < 9223372036854775807) (hl : l.length ≤ M + 1) :
    Calls Try.prog 28 #[.pointer (some ⟨q, 0, none⟩), .string nm, v] u fun e u' => e = .returned (.tuple #[]) ∧ CP w u' q r (M + 1) (S.put nm.data.toList l) ∧ Sides w r u u' := by
  obtain ⟨L, L2, b, tw, d, a, h2, h3, hwr, _, _⟩ := h.name t v (.fl nm.data.toList) (fun g hg => ⟨hob g hg, hbr.lt g hg⟩)
  refine (put_raw q L2 M S nm v l u a hM hnm hbr h3 hl).mono (fun e u' ⟨h5, h6⟩ => ⟨h5, CP.of b tw d hwr t.size h2 h6⟩)

/-- what the walk needs for an event -/
theorem cp_ev {w wr : World} {q r M : Nat} {S : St} (h : CP w wr q r M S) (hM : M + 1 ≤ 1099511627776) :
    ∃ ta tc, q < wr.heap.size ∧ (∀ u, Tn No wr u → u.cell? ⟨q, 60, none⟩ = some (.slice ta S.tr.length tc)) ∧
      ∀ u, Tn No wr u → ∀ (xa : Option Addr) (xm xc : Nat) (l : List UInt8), BR u (.slice xa xm xc) l → (∀ g, (Value.slice xa xm xc).ownBlock = some g → wr.heap.size < g) → l.length ≤ M + 1 → wr.heap.size < u.heap.size → ∀ (k : Int) (s : ByteArray),
        ∃ v' w', (Builtin.append_ #[69, 69] 69 #[.slice ta S.tr.length tc, .slice (some ⟨u.heap.size, 0, none⟩) 1 1]).run Try.prog (u.alloc (.cells #[.int .i64 k, .string s, .slice xa xm xc] 87)) = .ok v' w' ∧
          w'.cell? ⟨q, 60, none⟩ = some (.slice ta S.tr.length tc) ∧ w'.frozen? ⟨q, 60, none⟩ = false ∧ q < w'.heap.size ∧ (∃ va vn vc, v' = .slice va vn vc) ∧ w'.heap[wr.heap.size]? = u.heap[wr.heap.size]? ∧ CP w (w'.setCell ⟨q, 60, none⟩ v') q r (M + 1) (S.addEv ⟨k, s, l⟩) := by
  have h' := h
  obtain ⟨L0, ⟨c, mo, iv, tv, vs, a0⟩, b0, c0, d0⟩ := h
  obtain ⟨ta, tc, htv, _⟩ := a0.ew.rw.form
  refine ⟨ta, tc, a0.sc.lt, fun u t => ?_, fun u t xa xm xc l hbr hob hl heb k s => ?_⟩
  · rw [t.cell a0.sc.lt (fun e => e), a0.sc.cell 60 (by omega), a0.c60, htv]
  · obtain ⟨L, L2, b, tw, d, ⟨c', mo', iv', tv', vs', a⟩, h2, h3, hwr, hLlt, h2'⟩ := h'.name t (.slice xa xm xc) (.tx S.tr.length) (fun g hg => ⟨Nat.le_of_lt (hob g hg), hbr.lt g hg⟩)
    have etv : tv' = .slice ta S.tr.length tc := by
      have e1 := a.sc.cell 60 (by omega)
      rw [a.c60, t.cell a0.sc.lt (fun e => e), a0.sc.cell 60 (by omega), a0.c60, htv] at e1
      exact (Option.some.inj e1).symm
    subst etv
    obtain ⟨v', w', hr, hc, hf, hlt, L', hpx, ht, hll⟩ := a.addEvT hM k s xa xm xc l hbr h3 hl
    obtain ⟨va, vc, hva, _⟩ := hpx.ew.rw.form
    have hL : L2 wr.heap.size = none := Classical.byContradiction (fun hn => by
      rcases h2' _ hn with e | e
      · exact absurd (hLlt _ e) (by omega)
      · exact absurd (hob _ e) (by omega))
    have hne : wr.heap.size ≠ q := by have := a0.sc.lt; omega
    have hkeep : w'.heap[wr.heap.size]? = u.heap[wr.heap.size]? := by
      rw [← ht.block _ heb (fun e => e hL)]
      exact (Below.heap_setCell _ _ _ _ hne).symm
    exact ⟨v', w', hr, hc, hf, hlt, ⟨va, _, vc, hva⟩, hkeep, (CP.of b tw d hwr t.size h2 ⟨L', ⟨_, _, _, _, _, hpx⟩, ht, hll⟩).1⟩
end Go.Proofs.Ytkbdgdcicflocaa
namespace Go.Proofs.Ytkbdgdcicflocaa
set_option linter.unusedSimpArgs false
set_option linter.unusedVariables false
open Go.RowKit
attribute [local go_sem ↓] Go.wp_at_zero Go.wp_at_succ

def ops57 (c : Nat → Value) : List Value := [c 3, c 4, c 5, c 6, c 7, c 8, c 9, c 10, c 11, c 12, c 13, c 14, c 15, c 16, c 17, c 18, c 19, c 20, c 21, c 22, c 23, c 24, c 25, c 26, c 27, c 28, c 29, c 30, c 31, c 32, c 33, c 34, c 35, c 36, c 37, c 38, c 39, c 40, c 41, c 42, c 43, c 44, c 45, c 46, c 47, c 48, c 49, c 50, c 51, c 52, c 53, c 54, c 55, c 56, c 57, c 58, c 59]
theorem ops57_at (c : Nat → Value) (j : Nat) (v : Value) (h : (ops57 c)[j]? = some v) : j < 57 ∧ v = c (3 + j) := by
  have hj : j < 57 := (List.getElem?_eq_some_iff.1 h).1
  refine ⟨hj, ?_⟩
  have e : ops57 c = (List.range 57).map (fun i => c (3 + i)) := rfl
  rw [e, List.getElem?_map, List.getElem?_range hj] at h
  exact (Option.some.inj h).symm

/-- the new world's cells -/
def nc (c : Nat → Value) (v1 v2 : Value) : Nat → Value := fun i => if i = 0 then .map none else if i = 1 then v1 else if i = 2 then v2 else if i = 60 then .slice none 0 0 else c i
theorem nc_lit (c : Nat → Value) (v1 v2 : Value) : (#[.map none, v1, v2, c 3, c 4, c 5, c 6, c 7, c 8, c 9, c 10, c 11, c 12, c 13, c 14, c 15, c 16, c 17, c 18, c 19, c 20, c 21, c 22, c 23, c 24, c 25, c 26, c 27, c 28, c 29, c 30, c 31, c 32, c 33, c 34, c 35, c 36, c 37, c 38, c 39, c 40, c 41, c 42, c 43, c 44, c 45, c 46, c 47, c 48, c 49, c 50, c 51, c 52, c 53, c 54, c 55, c 56, c 57, c 58, c 59, .slice none 0 0] : Array Value) = ((List.range 61).map (nc c v1 v2)).toArray := by rfl

/-- the new world, without files and events -/
def bareSt (S : St) : St := { S with fs := fun _ => none, tr := [] }

theorem new_px {w w5 : World} {p : Nat} {L : Nat → Option Lab} {N : Nat} {S : St} {c : Nat → Value} {mo : Option Nat} {iv tv : Value} {vs : Nat → Value} (hx : PX w p L N S c mo iv tv vs) (t : Tn No w w5) (ca : Option Addr) (cc : Nat) (hbr : BR w5 (.slice ca S.inp.length cc) S.inp) (hob : ∀ g, (Value.slice ca S.inp.length cc).ownBlock = some g → w.heap.size ≤ g) :
    ∃ L', PW (w5.alloc (.cells #[.map none, .slice ca S.inp.length cc, .int .i64 (S.rd : Int), c 3, c 4, c 5, c 6, c 7, c 8, c 9, c 10, c 11, c 12, c 13, c 14, c 15, c 16, c 17, c 18, c 19, c 20, c 21, c 22, c 23, c 24, c 25, c 26, c 27, c 28, c 29, c 30, c 31, c 32, c 33, c 34, c 35, c 36, c 37, c 38, c 39, c 40, c 41, c 42, c 43, c 44, c 45, c 46, c 47, c 48, c 49, c 50, c 51, c 52, c 53, c 54, c 55, c 56, c 57, c 58, c 59, .slice none 0 0] 71)) w5.heap.size L' N (bareSt S) ∧ ∀ k, L' k ≠ none → w.heap.size ≤ k ∧ k < w5.heap.size + 1 := by
  have hcell : ∀ i, i < 61 → (w5.alloc (.cells #[.map none, .slice ca S.inp.length cc, .int .i64 (S.rd : Int), c 3, c 4, c 5, c 6, c 7, c 8, c 9, c 10, c 11, c 12, c 13, c 14, c 15, c 16, c 17, c 18, c 19, c 20, c 21, c 22, c 23, c 24, c 25, c 26, c 27, c 28, c 29, c 30, c 31, c 32, c 33, c 34, c 35, c 36, c 37, c 38, c 39, c 40, c 41, c 42, c 43, c 44, c 45, c 46, c 47, c 48, c 49, c 50, c 51, c 52, c 53, c 54, c 55, c 56, c 57, c 58, c 59, .slice none 0 0] 71)).cell? ⟨w5.heap.size, i, none⟩ = some (nc c (.slice ca S.inp.length cc) (.int .i64 (S.rd : Int)) i) := fun i hi => by
    rw [World.cell?_alloc_mark, nc_lit]
    simp [hi]
  have hfz : ∀ i, (w5.alloc (.cells #[.map none, .slice ca S.inp.length cc, .int .i64 (S.rd : Int), c 3, c 4, c 5, c 6, c 7, c 8, c 9, c 10, c 11, c 12, c 13, c 14, c 15, c 16, c 17, c 18, c 19, c 20, c 21, c 22, c 23, c 24, c 25, c 26, c 27, c 28, c 29, c 30, c 31, c 32, c 33, c 34, c 35, c 36, c 37, c 38, c 39, c 40, c 41, c 42, c 43, c 44, c 45, c 46, c 47, c 48, c 49, c 50, c 51, c 52, c 53, c 54, c 55, c 56, c 57, c 58, c 59, .slice none 0 0] 71)).frozen? ⟨w5.heap.size, i, none⟩ = false := fun j => by
    simp only [World.frozen?, heap_alloc_new]
    simp
  have hsz : (w5.alloc (.cells #[.map none, .slice ca S.inp.length cc, .int .i64 (S.rd : Int), c 3, c 4, c 5, c 6, c 7, c 8, c 9, c 10, c 11, c 12, c 13, c 14, c 15, c 16, c 17, c 18, c 19, c 20, c 21, c 22, c 23, c 24, c 25, c 26, c 27, c 28, c 29, c 30, c 31, c 32, c 33, c 34, c 35, c 36, c 37, c 38, c 39, c 40, c 41, c 42, c 43, c 44, c 45, c 46, c 47, c 48, c 49, c 50, c 51, c 52, c 53, c 54, c 55, c 56, c 57, c 58, c 59, .slice none 0 0] 71)).heap.size = w5.heap.size + 1 := by simp
  have t6 : Tn No w5 (w5.alloc (.cells #[.map none, .slice ca S.inp.length cc, .int .i64 (S.rd : Int), c 3, c 4, c 5, c 6, c 7, c 8, c 9, c 10, c 11, c 12, c 13, c 14, c 15, c 16, c 17, c 18, c 19, c 20, c 21, c 22, c 23, c 24, c 25, c 26, c 27, c 28, c 29, c 30, c 31, c 32, c 33, c 34, c 35, c 36, c 37, c 38, c 39, c 40, c 41, c 42, c 43, c 44, c 45, c 46, c 47, c 48, c 49, c 50, c 51, c 52, c 53, c 54, c 55, c 56, c 57, c 58, c 59, .slice none 0 0] 71)) := (Tn.refl No w5).alloc _
  generalize w5.alloc (.cells #[.map none, .slice ca S.inp.length cc, .int .i64 (S.rd : Int), c 3, c 4, c 5, c 6, c 7, c 8, c 9, c 10, c 11, c 12, c 13, c 14, c 15, c 16, c 17, c 18, c 19, c 20, c 21, c 22, c 23, c 24, c 25, c 26, c 27, c 28, c 29, c 30, c 31, c 32, c 33, c 34, c 35, c 36, c 37, c 38, c 39, c 40, c 41, c 42, c 43, c 44, c 45, c 46, c 47, c 48, c 49, c 50, c 51, c 52, c 53, c 54, c 55, c 56, c 57, c 58, c 59, .slice none 0 0] 71) = u at *
  have hnc : ∀ i, 3 ≤ i → i < 60 → nc c (.slice ca S.inp.length cc) (.int .i64 (S.rd : Int)) i = c i := fun i h1 h2 => by
    unfold nc
    rw [if_neg (by omega), if_neg (by omega), if_neg (by omega), if_neg (by omega)]
  obtain ⟨v1, hv1⟩ : ∃ v1, Value.slice ca S.inp.length cc = v1 := ⟨_, rfl⟩
  rw [hv1] at hcell hnc hbr hob
  have hlt : ∀ g, v1.ownBlock = some g → g < w5.heap.size := hbr.lt
  refine ⟨fun k => if k = w5.heap.size then some .st else if v1.ownBlock = some k then some .inp else none, ⟨_, none, v1, .slice none 0 0, fun _ => nilV, ⟨⟨by omega, hcell, hfz⟩, rfl, rfl, rfl, rfl, fun i hi => ?_, hx.pl, by simp, fun k hk => ?_, .inl ⟨rfl, fun _ => rfl⟩, hbr.no t6, fun g hg => ?_, hx.rd, ⟨.inl ⟨rfl, rfl⟩, fun g hg => (by cases hg), Nat.zero_le _, fun i e he => by simp [bareSt] at he⟩⟩⟩, fun k hk => ?_⟩
  · rw [hnc _ (by omega) (by omega), hnc _ (by omega) (by omega), hnc _ (by omega) (by omega)]
    exact hx.cd i hi
  · try dsimp only at hk
    split at hk
    · omega
    · split at hk
      · rename_i e; have := hlt k e; omega
      · exact absurd rfl hk
  · rw [if_neg (by have := hlt g hg; omega), if_pos hg]
  · try dsimp only at hk
    have := t.size
    split at hk
    · omega
    · split at hk
      · rename_i e; have := hlt k e; have := hob k e; omega
      · exact absurd rfl hk
end Go.Proofs.Ytkbdgdcicflocaa
namespace Go.Proofs.Ytkbdgdcicflocaa
set_option linter.unusedSimpArgs false
set_option linter.unusedVariables false
open Go.RowKit
attribute [local go_sem ↓] Go.wp_at_zero Go.wp_at_succ

theorem ranges_of {H : Type} {P : Program} {k : TypeId} {R : Value → Option (DataW H × List MemPlace)} {w w' : World} {b r n cnt : Nat} {D : DataW H} {left : Lit → Bool} (h : w.ranges P k R b r n D left cnt) (hb : w'.heap[b]? = w.heap[b]?) (hr : w'.heap[r]? = w.heap[r]?) : w'.ranges P k R b r n D left cnt := by
  obtain ⟨es, clock, since, seen, c0, h1, F, hs, hD, h2, rest⟩ := h
  exact ⟨es, clock, since, seen, c0, hb.trans h1, F, hs, hD, hr.trans h2, rest⟩

/-- the files that are no longer to come -/
def partSt (S : St) (left : Lit → Bool) : St := { S with fs := fun k => if left (.string k) = true then none else S.fs k, tr := [] }
theorem part_step (S : St) (left : Lit → Bool) (x : List UInt8) (l : List UInt8) (h : S.fs x = some l) : (partSt S left).put x l = partSt S (fun z => left z && !z.sameKey (.string x)) := by
  unfold partSt St.put
  simp only [St.mk.injEq, and_true, true_and]
  funext k
  by_cases e : k = x
  · subst e; simp [Lit.sameKey, h]
  · simp [Lit.sameKey, e]
theorem part_end (S : St) (left : Lit → Bool) (h : ∀ kl, left kl = false) : partSt S left = { S with tr := [] } := by
  unfold partSt
  simp [h]

/-- a map's files are being gone through: how many are still to come: cnt at most -/
def RG (w wr : World) (S : St) (mo : Option Nat) (r N : Nat) (left : Lit → Bool) (cnt : Nat) : Prop :=
  (mo = none ∧ wr.heap[r]? = some (.mapIter none 0 #[] 0) ∧ ∀ kl, left kl = false) ∨ ∃ b n D, mo = some b ∧ b < w.heap.size ∧ wr.ranges Try.prog 9 rawElem b r n D left cnt ∧
    ∀ k, Maps.has D (.string k) = (S.fs k).isSome ∧ ∀ l, S.fs k = some l → ∃ v, D.atKey (.string k) (.held nilV) = .held v ∧ BR w v l ∧ l.length ≤ N
def rgLeft (wr : World) (mo : Option Nat) (r : Nat) : Nat := match mo with | none => 0 | some b => wr.rangeLeft b r

theorem RG.sides {w wr u u' : World} {S : St} {mo : Option Nat} {r N cnt : Nat} {left : Lit → Bool} (h : RG w u S mo r N left cnt) (hw : w.heap.size ≤ u.heap.size) (hr : r < u.heap.size) (hs : Sides w r u u') : RG w u' S mo r N left cnt ∧ rgLeft u' mo r = rgLeft u mo r := by
  rcases h with ⟨rfl, h1, h2⟩ | ⟨b, n, D, rfl, hb, hrg, hf⟩
  · exact ⟨.inl ⟨rfl, (hs r hr (.inr rfl)).trans h1, h2⟩, rfl⟩
  · have hrg' := ranges_of hrg (hs b (by omega) (.inl hb)) (hs r hr (.inr rfl))
    exact ⟨.inr ⟨b, n, D, rfl, hb, hrg', hf⟩, by show World.rangeLeft _ _ _ = World.rangeLeft _ _ _; rw [hrg'.left_eq, hrg.left_eq]⟩
theorem Sides.of_no {w u u' : World} {r : Nat} (t : Tn No u u') : Sides w r u u' := fun k hk _ => t.block k hk (fun e => e)

theorem run_next_nil (w : World) (r : Nat) (ty : TypeId) (h : w.heap[r]? = some (.mapIter none 0 #[] 0)) : (Instr.next (.pointer (some ⟨r, 0, none⟩)) false ty).run Try.prog w = .ok (.tuple #[.bool false]) w := by
  simp only [Instr.next, getObj, Sem.run_bind, Sem.run, h, Result.andThen]
  rfl

/-- the loop begins -/
theorem wpList_range_any (W : World) {ops : Array Oper} {rest : List Oper} {o : Oper} {a : Act} {Q : Exit → Act → World → Prop} (hg : o.guard = none) (m : Operand) (hop : o.op = Op.range 65 m) {w : World} {p : Nat} {L : Nat → Option Lab} {N : Nat} {S : St} {c : Nat → Value} {mo : Option Nat} {iv tv : Value} {vs : Nat → Value} (hx : PX w p L N S c mo iv tv vs) (t : Tn No w W) (hm : a.eval m = .map mo)
    (hK : ∀ w' left cnt, RG w w' S mo W.heap.size N left cnt → cnt ≤ N → partSt S left = bareSt S → Tn No W w' → w'.heap.size = W.heap.size + 1 → wpList Try.prog ops Q rest (a.put o.dst (.pointer (some ⟨W.heap.size, 0, none⟩))) w') :
    wpList Try.prog ops Q (o :: rest) a W := by
  have hfm := hx.fm
  rcases hfm with ⟨rfl, hf⟩ | ⟨b, n, D, rfl, hn, hb, hown, hf⟩
  · refine wpList_plain hg fun K' hK' => ?_
    have hrun := run_range_nilMap (P := Try.prog) W 65 9 64 Try.underlying65
    unfold Oper.wp
    simp [execOp, hop, hm, hrun, Result.andThen]
    refine hK' _ _ (hK (W.alloc (.mapIter none 0 #[] 0)) (fun _ => false) 0 (.inl ⟨rfl, heap_alloc_new _ _, fun _ => rfl⟩) (Nat.zero_le _) ?_ ((Tn.refl No W).alloc _) (by simp))
    unfold partSt bareSt
    simp only [St.mk.injEq, and_true]
    funext k
    simp [hf k]
  · have hbl : b < w.heap.size := hx.lt b (by rw [hb]; simp)
    have hown' : W.ownsMap Try.prog 9 rawElem b n D := by
      obtain ⟨es, clock, h1, r⟩ := hown
      exact ⟨es, clock, (t.block b hbl (fun e => e)).trans h1, r⟩
    refine wpList_range_own W hg m 65 hop 9 64 law9 Try.underlying65 rawElem b n D hm hown' (fun w' h1 h2 h3 => hK w' _ _ (.inr ⟨b, n, D, rfl, hbl, h1, fun k => ⟨(hf k).1, fun l hl => by
      obtain ⟨v, e1, e2, _, e4⟩ := (hf k).2 l hl
      exact ⟨v, e1, e2, e4⟩⟩⟩) ?_ ?_ ⟨h2.os, h2.tape, h2.output, h2.size, fun k hk _ => h2.block k hk (by simp)⟩ h3)
    · exact Nat.le_trans hown'.size_le hn
    · unfold partSt bareSt
      simp only [St.mk.injEq, and_true]
      funext k
      have := (hf k).1
      cases e : S.fs k with
      | none => simp
      | some l => rw [e] at this; simp [this]

/-- the loop's step -/
theorem wpList_next_any (wr : World) {ops : Array Oper} {rest : List Oper} {o : Oper} {a : Act} {Q : Exit → Act → World → Prop} (hg : o.guard = none) (it : Operand) (hop : o.op = Op.next it false) {w : World} {S : St} {mo : Option Nat} {r N cnt : Nat} {left : Lit → Bool} (h : RG w wr S mo r N left cnt) (hit : a.eval it = .pointer (some ⟨r, 0, none⟩)) (t : Tn No w wr) (hr : w.heap.size ≤ r)
    (hDone : (∀ kl, left kl = false) → wpList Try.prog ops Q rest (a.put o.dst (.tuple #[.bool false])) wr)
    (hMore : ∀ (s : ByteArray) (v : Value) (l : List UInt8) (w' : World) (cnt' : Nat), s.size ≤ maxLen → S.fs s.data.toList = some l → BR w v l → l.length ≤ N → RG w w' S mo r N (fun z => left z && !z.sameKey (.string s.data.toList)) cnt' → cnt' < cnt → rgLeft w' mo r < rgLeft wr mo r → wr.grownBy w' (some r) → w'.heap.size = wr.heap.size →
      (Instr.entry (.pointer (some ⟨r, 0, none⟩))).run Try.prog w' = .ok (.tuple #[.string s, v]) w' → wpList Try.prog ops Q rest (a.put o.dst (.tuple #[.bool true, .string s, v])) w') :
    wpList Try.prog ops Q (o :: rest) a wr := by
  rcases h with ⟨rfl, h1, h2⟩ | ⟨b, n, D, rfl, hb, hrg, hf⟩
  · refine wpList_plain hg fun K' hK' => ?_
    have hrun := fun ty => run_next_nil wr r ty h1
    unfold Oper.wp
    simp [execOp, hop, hit, hrun, Result.andThen]
    exact hK' _ _ (hDone h2)
  · refine wpList_next_ranges wr hg it hop 9 law9 rawElem (fun s : ByteArray => Value.string s) (fun v : Value => v) (fun key kl hk => by
      obtain ⟨x, e, _⟩ := Maps.keyOf_str Try.underlying9 hk
      exact ⟨_, e⟩) (fun v y hv => ⟨v, rfl⟩) b r n D left cnt hit hrg (fun _ hl => hDone hl) (fun s v kl y w' cnt' hkey hlk hv hat hrg' hlt hgr hsz hen => ?_)
    obtain ⟨x, ex, rfl, hxl⟩ := Maps.keyOf_str Try.underlying9 hkey
    have es : s.data.toList = x := by
      have := congrArg (fun z => match z with | Value.string q => q.data.toList | _ => []) ex
      simpa [encStr] using this
    subst es
    simp only [rawElem, Option.some.injEq] at hv
    have hat' : ∀ zd, D.atKey (.string s.data.toList) zd = .held v := fun zd => by rw [hat zd, ← hv]
    have hhas : Maps.has D (.string s.data.toList) = true := Maps.has_true_of_atKey hat'
    rw [(hf _).1] at hhas
    obtain ⟨l, hl⟩ := Option.isSome_iff_exists.1 hhas
    obtain ⟨v', e1, e2, e3⟩ := (hf _).2 l hl
    have : v' = v := by
      have := e1.symm.trans (hat' (.held nilV))
      cases this; rfl
    subst this
    refine hMore s _ l w' cnt' (by simpa using hxl) hl e2 e3 (.inr ⟨b, n, D, rfl, hb, hrg', hf⟩) hlt ?_ hgr hsz hen
    show World.rangeLeft _ _ _ < World.rangeLeft _ _ _
    rw [hrg'.left_eq, hrg.left_eq]
    exact hlt
end Go.Proofs.Ytkbdgdcicflocaa
