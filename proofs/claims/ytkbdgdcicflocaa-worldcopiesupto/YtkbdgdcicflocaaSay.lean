/-
  say: a text goes on the trace.
-/
import Derived.Test.YtkbdgdcicflocaaOpen2
namespace Go.Proofs.Ytkbdgdcicflocaa
set_option linter.unusedSimpArgs false
set_option linter.unusedVariables false
open Go.RowKit
attribute [local go_sem ↓] Go.wp_at_zero Go.wp_at_succ

/-- a text goes on an event -/
def St.addTx (S : St) (i : Nat) (t : List UInt8) : St := { S with tr := S.tr.modify i (fun e => { e with text := e.text ++ t }) }

theorem PX.addTx {w : World} {p : Nat} {L : Nat → Option Lab} {N : Nat} {S : St} {c : Nat → Value} {mo : Option Nat} {iv tv : Value} {vs : Nat → Value} (h : PX w p L N S c mo iv tv vs) (i : Nat) (hi : i < S.tr.length) (s : ByteArray) (hN : N + s.size ≤ 1099511627776) :
    ∃ g cap v' w', tv = .slice (some ⟨g, 0, none⟩) S.tr.length cap ∧ S.tr.length ≤ cap ∧ cap ≤ 9223372036854775807 ∧ g < w.heap.size ∧ (Builtin.append_ #[64, 9] 64 #[vs i, .string s]).run Try.prog w = .ok v' w' ∧ (∃ a n cp, v' = .slice a n cp) ∧
      w.cell? ⟨g, 3 * i + 2, none⟩ = some (vs i) ∧ w'.cell? ⟨g, 3 * i + 2, none⟩ = some (vs i) ∧ w'.frozen? ⟨g, 3 * i + 2, none⟩ = false ∧ w'.cell? ⟨p, 60, none⟩ = some tv ∧ g < w'.heap.size ∧ p < w'.heap.size ∧
      ∃ L', PX (w'.setCell ⟨g, 3 * i + 2, none⟩ v') p L' (N + s.size) (S.addTx i s.data.toList) c mo iv tv (upd vs i v') ∧ Tn (fun k => L k ≠ none) w (w'.setCell ⟨g, 3 * i + 2, none⟩ v') ∧ (∀ k, k < w.heap.size → L k = none → L' k = none) := by
  obtain ⟨g, cap, htv, hg, hlc, hcm, hfz⟩ := h.ew.rw.pos (by omega)
  have hLg : L g = some .tr := h.ew.lab g (by rw [htv]; rfl)
  have hev := h.ew.ev i (S.tr[i]'hi) (List.getElem?_eq_getElem hi)
  obtain ⟨e0, e1, e2, ebr, elb, elen⟩ := hev
  have hsl : s.data.toList.length = s.size := by simp
  have hsrc : Src Try.prog 1 9 (.string s) s.data.toList.length (bc s.data.toList) w := by
    have := Src.ofString (P := Try.prog) w Try.underlying9 s
    rw [hsl]
    exact this
  obtain ⟨v', w', hr, hbr, hgr, hown⟩ := br_append 64 ebr hsrc (by rw [hsl]; omega)
  have hvc : ∀ u j, vc u tv j = u.cell? ⟨g, j, none⟩ := fun u j => by rw [htv]; rfl
  have hob : ∀ k, v'.ownBlock = some k → L k = some (.tx i) ∨ k = w.heap.size := fun k hk => by
    rcases hown with e | e
    · left; exact elb k (by rw [← e]; exact hk)
    · right; rw [e] at hk; cases hk; rfl
  -- blocks that are neither the text's nor new
  have hk : ∀ k, L k ≠ none → L k ≠ some (.tx i) → w'.heap[k]? = w.heap[k]? := fun k h1 h2 => hgr.block k (h.lt k h1) (fun e => h2 (elb k e.symm))
  have hks : ∀ k, k ≠ g → (w'.setCell ⟨g, 3 * i + 2, none⟩ v').heap[k]? = w'.heap[k]? := fun k hk => Below.heap_setCell _ _ _ _ hk
  have hng : ∀ k, L k ≠ some .tr → k ≠ g := fun k h1 e => h1 (by rw [e]; exact hLg)
  have hkk : ∀ k, L k ≠ none → L k ≠ some (.tx i) → L k ≠ some .tr → (w'.setCell ⟨g, 3 * i + 2, none⟩ v').heap[k]? = w.heap[k]? := fun k h1 h2 h3 => (hks k (hng k h3)).trans (hk k h1 h2)
  have hgk : w'.heap[g]? = w.heap[g]? := hk g (by rw [hLg]; simp) (by rw [hLg]; simp)
  have hgc : ∀ j, w'.cell? ⟨g, j, none⟩ = w.cell? ⟨g, j, none⟩ := fun j => World.cell?_of_block (w := w) (a := ⟨g, j, none⟩) hgk
  have hgf : ∀ j, w'.frozen? ⟨g, j, none⟩ = w.frozen? ⟨g, j, none⟩ := fun j => World.frozen?_of_block (w := w) (a := ⟨g, j, none⟩) hgk
  have hc2 : w.cell? ⟨g, 3 * i + 2, none⟩ = some (vs i) := by rw [← hvc]; exact e2
  have hpk : w'.heap[p]? = w.heap[p]? := hk p (by rw [h.labs]; simp) (by rw [h.labs]; simp)
  have hc60 : w'.cell? ⟨p, 60, none⟩ = some tv := by rw [World.cell?_of_block (w := w) (a := ⟨p, 60, none⟩) hpk, h.sc.cell 60 (by omega), h.c60]
  -- the labels
  obtain ⟨L', hL'⟩ : ∃ L' : Nat → Option Lab, L' = fun k => if v'.ownBlock = some k then some (.tx i) else L k := ⟨_, rfl⟩
  have up : ∀ {k : Nat} {x : Lab}, L k = some x → L' k = some x := fun {k x} e => by
    rw [hL']
    by_cases ek : v'.ownBlock = some k
    · simp only [ek, if_true]
      rcases hob k ek with e' | e'
      · rw [e'] at e; exact e
      · have := h.lt k (by rw [e]; simp); omega
    · simp only [ek, if_false]; exact e
  have tn : Tn (fun k => L k ≠ none) w (w'.setCell ⟨g, 3 * i + 2, none⟩ v') :=
    ((Tn.refl _ w).grown hgr (fun k e _ => by rw [elb k e]; simp)).set _ _ (fun _ => by show L g ≠ none; rw [hLg]; simp)
  obtain ⟨va, vcap, hvf, _⟩ := hbr.rw.form
  refine ⟨g, cap, v', w', htv, hlc, hcm, hg, hr, ⟨va, _, vcap, hvf⟩, hc2, (hgc _).trans hc2, (hgf _).trans (hfz _ (by omega)), hc60, Nat.lt_of_lt_of_le hg hgr.size, Nat.lt_of_lt_of_le h.sc.lt hgr.size, L', ?_, tn, fun k hk e => ?_⟩
  · have hm := h.mono (Nat.le_add_right N s.size)
    refine { sc := h.sc.kept (hkk p (by rw [h.labs]; simp) (by rw [h.labs]; simp) (by rw [h.labs]; simp)), c0 := h.c0, c1 := h.c1, c2 := h.c2, c60 := h.c60, cd := h.cd, pl := hm.pl, labs := up h.labs, lt := fun k hk => ?_, fm := ?_, inp := ?_, labi := fun g hg => up (h.labi g hg), rd := h.rd, ew := ?_ }
    · have e : (w'.setCell ⟨g, 3 * i + 2, none⟩ v').heap.size = w'.heap.size := by simp
      rw [e]
      by_cases ek : v'.ownBlock = some k
      · exact hbr.lt k ek
      · rw [hL'] at hk; simp only [ek, if_false] at hk
        exact Nat.lt_of_lt_of_le (h.lt k hk) hgr.size
    · have := hm.fm.kept2 (w' := w'.setCell ⟨g, 3 * i + 2, none⟩ v') (fun k hl => by
        rcases hl with hl | ⟨n, hl⟩ <;> exact hkk k (by rw [hl]; simp) (by rw [hl]; simp) (by rw [hl]; simp))
      rcases this with h | ⟨b, n, D, e, hn, hb, hown, hf⟩
      · exact .inl h
      · exact .inr ⟨b, n, D, e, hn, up hb, hown, fun k => ⟨(hf k).1, fun l hl => by
          obtain ⟨v, hv, hbr, hlab, hlen⟩ := (hf k).2 l hl
          exact ⟨v, hv, hbr, fun g hg => up (hlab g hg), hlen⟩⟩⟩
    · exact h.inp.kept (fun k hk => hkk k (by rw [h.labi k hk]; simp) (by rw [h.labi k hk]; simp) (by rw [h.labi k hk]; simp))
    · have hlen2 : (S.addTx i s.data.toList).tr.length = S.tr.length := by simp [St.addTx]
      have hcell : ∀ j, j ≠ 3 * i + 2 → (w'.setCell ⟨g, 3 * i + 2, none⟩ v').cell? ⟨g, j, none⟩ = w.cell? ⟨g, j, none⟩ := fun j hj => by
        rw [World.cell?_setCell_other _ _ _ _ (by intro e; cases e; exact hj rfl)]; exact hgc j
      have hcell2 : (w'.setCell ⟨g, 3 * i + 2, none⟩ v').cell? ⟨g, 3 * i + 2, none⟩ = some v' := World.cell?_setCell_same _ _ _ ((hgc _).trans hc2)
      refine ⟨?_, fun k hk => up (h.ew.lab k hk), by rw [hlen2]; exact hm.ew.len, fun j e he => ?_⟩
      · rw [hlen2]
        rcases h.ew.rw with ⟨e, _⟩ | ⟨g2, cap2, e, hg2, a1, a2, a3⟩
        · rw [htv] at e; cases e
        · rw [htv] at e; cases e
          refine .inr ⟨g, cap, htv, by simpa using Nat.lt_of_lt_of_le hg hgr.size, a1, a2, fun j hj => ?_⟩
          rw [World.frozen?_setCell, hgf]
          refine ⟨?_, (a3 j hj).2⟩
          by_cases ej : j = 3 * i + 2
          · subst ej; rw [hcell2]; rfl
          · rw [hcell j ej]; exact (a3 j hj).1
      · have hj : j < S.tr.length := by
          have := (List.getElem?_eq_some_iff.1 he).1
          omega
        obtain ⟨f0, f1, f2, fbr, flab, flen⟩ := h.ew.ev j (S.tr[j]'hj) (List.getElem?_eq_getElem hj)
        by_cases ej : j = i
        · subst ej
          have he' : e = { S.tr[j] with text := S.tr[j].text ++ s.data.toList } := by
            have : S.tr[j]? = some (S.tr[j]'hj) := List.getElem?_eq_getElem hj
            simp [St.addTx, List.getElem?_modify, this] at he
            exact he.symm
          subst he'
          refine ⟨?_, ?_, ?_, ?_, fun k hk => ?_, ?_⟩
          · rw [hvc, hcell _ (by omega), ← hvc]; exact f0
          · rw [hvc, hcell _ (by omega), ← hvc]; exact f1
          · rw [hvc, hcell2, upd_same]
          · rw [upd_same]
            exact hbr.kept (fun k hk => hks k (by
              rintro rfl
              rcases hob k hk with e | e
              · rw [hLg] at e; cases e
              · omega))
          · rw [upd_same] at hk; rw [hL']; simp only [hk, if_true]
          · simp only [List.length_append, hsl]; omega
        · have he' : e = S.tr[j] := by
            have : S.tr[j]? = some (S.tr[j]'hj) := List.getElem?_eq_getElem hj
            simp [St.addTx, List.getElem?_modify, this, Ne.symm ej] at he
            exact he.symm
          subst he'
          refine ⟨?_, ?_, ?_, ?_, fun k hk => ?_, by omega⟩
          · rw [hvc, hcell _ (by omega), ← hvc]; exact f0
          · rw [hvc, hcell _ (by omega), ← hvc]; exact f1
          · rw [hvc, hcell _ (by omega), ← hvc, upd_other _ _ ej]; exact f2
          · rw [upd_other _ _ ej]
            exact fbr.kept (fun k hk => hkk k (by rw [flab k hk]; simp) (by rw [flab k hk]; simp; omega) (by rw [flab k hk]; simp))
          · rw [upd_other _ _ ej] at hk; exact up (flab k hk)
  · rw [hL']
    by_cases ek : v'.ownBlock = some k
    · exfalso
      rcases hob k ek with e' | e'
      · rw [e] at e'; cases e'
      · omega
    · simp only [ek, if_false]; exact e
end Go.Proofs.Ytkbdgdcicflocaa
