/-
  SysOpen.
-/
import Derived.Test.YtoidddfpekbliaaGreatWJ03
namespace Go.Proofs.YtoidddfpekbliaaGreat
set_option linter.unusedSimpArgs false
set_option linter.unusedVariables false
open Go.RowKit
attribute [local go_sem ↓] Go.wp_at_zero Go.wp_at_succ

def St.openR (S : St) (s : ByteArray) (k : Nat) : St := S.setDe k ⟨4, s, 0⟩
def St.openW (S : St) (s : ByteArray) (k : Nat) : St := ((S.setDe k ⟨5, s, 0⟩).put s.data.toList []).addEv ⟨3, s, []⟩
/-- what SysOpen answers -/
def openRes (S : St) (s : ByteArray) (fl : Int) : Int :=
  if 255 < s.size then -36 else if (fl ≠ 0 ∧ fl ≠ 577) ∨ zb s.data.toList = true then -22 else if s.size = 0 ∨ (fl = 0 ∧ S.has s = false) then -2 else
  match S.free with | none => -24 | some k => (k : Int)
/-- what it leaves -/
def openSt (S : St) (s : ByteArray) (fl : Int) : St :=
  if openRes S s fl < 0 then S else if fl = 0 then S.openR s (openRes S s fl).toNat else S.openW s (openRes S s fl).toNat

def OpenPost (w : World) (p : Nat) (L : Nat → Option Lab) (N : Nat) (S : St) (s : ByteArray) (fl : Int) (e : Ending) (w' : World) : Prop :=
  e = .returned (.int .i64 (openRes S s fl)) ∧ Lft w p L w' (N + 2) (openSt S s fl)

theorem open_no {w w' : World} {p : Nat} {L : Nat → Option Lab} {N : Nat} {S : St} {s : ByteArray} {fl r : Int} (h : PW w p L N S) (t : Tn No w w') (hr : openRes S s fl = r) (h0 : r < 0) : OpenPost w p L N S s fl (.returned (.int .i64 r)) w' := by
  refine ⟨by rw [hr], ?_⟩
  unfold openSt
  rw [hr, if_pos h0]
  exact (h.same t).mono (by omega)

set_option maxHeartbeats 1000000 in
set_option maxRecDepth 100000 in
theorem open_36 (p : Nat) (L : Nat → Option Lab) (N : Nat) (S : St) (s : ByteArray) (fl : Int) (w : World) (h : PW w p L N S) (hs : s.size ≤ maxLen) (h1 : 255 < s.size) :
    Calls Tryz.prog 164 #[.pointer (some ⟨p, 0, none⟩), .string s, .int .i64 fl] w (OpenPost w p L N S s fl) := by
  unfold maxLen at hs
  have HP := hid h
  clear h
  go_enter Tryz.func164, Tryz.ntmps164
  go_wp2
  go_ret
  exact open_no HP.out (by repeat (first | exact Tn.refl _ _ | apply Tn.drew | apply Tn.drewN | apply Tn.alloc | (refine Tn.then ?_ (by assumption)) | (refine Tn.thenNo ?_ (by assumption)))) (by unfold openRes; rw [if_pos h1]) (by omega)

set_option maxHeartbeats 1000000 in
set_option maxRecDepth 100000 in
theorem open_22 (p : Nat) (L : Nat → Option Lab) (N : Nat) (S : St) (s : ByteArray) (fl : Int) (w : World) (h : PW w p L N S) (h1 : s.size ≤ 255) (h2 : (fl ≠ 0 ∧ fl ≠ 577) ∨ zb s.data.toList = true) :
    Calls Tryz.prog 164 #[.pointer (some ⟨p, 0, none⟩), .string s, .int .i64 fl] w (OpenPost w p L N S s fl) := by
  have HP := hid h
  have hres : openRes S s fl = -22 := by unfold openRes; rw [if_neg (by omega), if_pos h2]
  have HR := hid hres
  clear h hres
  by_cases h3 : fl ≠ 0 ∧ fl ≠ 577
  · have d1 : (fl != 0) = true := by simpa using h3.1
    have d2 : (fl != 577) = true := by simpa using h3.2
    clear h2 h3
    go_enter Tryz.func164, Tryz.ntmps164
    go_wp2
    go_ret
    exact open_no HP.out (by repeat (first | exact Tn.refl _ _ | apply Tn.drew | apply Tn.drewN | apply Tn.alloc | (refine Tn.then ?_ (by assumption)) | (refine Tn.thenNo ?_ (by assumption)))) HR.out (by omega)
  · have hz : zb s.data.toList = true := by rcases h2 with h | h; exact absurd h h3; exact h
    clear h2
    by_cases h4 : fl = 0
    · subst h4
      go_enter Tryz.func164, Tryz.ntmps164
      go_wp2_with (go_at_call 71; refine (nought_raw _ _).mono ?_; rintro e w1 ⟨rfl, rfl⟩)
      go_ret
      exact open_no HP.out (by repeat (first | exact Tn.refl _ _ | apply Tn.drew | apply Tn.drewN | apply Tn.alloc | (refine Tn.then ?_ (by assumption)) | (refine Tn.thenNo ?_ (by assumption)))) HR.out (by omega)
    · have h5 : fl = 577 := by omega
      subst h5
      go_enter Tryz.func164, Tryz.ntmps164
      go_wp2_with (go_at_call 71; refine (nought_raw _ _).mono ?_; rintro e w1 ⟨rfl, rfl⟩)
      go_ret
      exact open_no HP.out (by repeat (first | exact Tn.refl _ _ | apply Tn.drew | apply Tn.drewN | apply Tn.alloc | (refine Tn.then ?_ (by assumption)) | (refine Tn.thenNo ?_ (by assumption)))) HR.out (by omega)

set_option maxHeartbeats 1000000 in
set_option maxRecDepth 100000 in
theorem open_2 (p : Nat) (L : Nat → Option Lab) (N : Nat) (S : St) (s : ByteArray) (fl : Int) (w : World) (h : PW w p L N S) (h1 : s.size ≤ 255) (h2 : fl = 0 ∨ fl = 577) (hz : zb s.data.toList = false) (h3 : s.size = 0 ∨ (fl = 0 ∧ S.has s = false)) :
    Calls Tryz.prog 164 #[.pointer (some ⟨p, 0, none⟩), .string s, .int .i64 fl] w (OpenPost w p L N S s fl) := by
  have HP := hid h
  have hres : openRes S s fl = -2 := by
    unfold openRes
    rw [if_neg (by omega), if_neg (by rw [hz]; simp; omega), if_pos h3]
  have HR := hid hres
  clear h hres
  by_cases h4 : s.size = 0
  · have he : s.toList = [] := (toList_nil s).2 h4
    clear h4 h3
    rcases h2 with rfl | rfl
    all_goals
      go_enter Tryz.func164, Tryz.ntmps164
      go_wp2_with (go_at_call 71; refine (nought_raw _ _).mono ?_; rintro e w1 ⟨rfl, rfl⟩)
      go_ret
      exact open_no HP.out (by repeat (first | exact Tn.refl _ _ | apply Tn.drew | apply Tn.drewN | apply Tn.alloc | (refine Tn.then ?_ (by assumption)) | (refine Tn.thenNo ?_ (by assumption)))) HR.out (by omega)
  · obtain ⟨rfl, hh⟩ : fl = 0 ∧ S.has s = false := by rcases h3 with h | h; exact absurd h h4; exact h
    have he : s.toList.isEmpty = false := by rw [toList_isEmpty]; simpa using h4
    clear h4 h3 h2
    go_enter Tryz.func164, Tryz.ntmps164
    go_wp2_with (first
      | (go_at_call 71; refine (nought_raw _ _).mono ?_; rintro e w1 ⟨rfl, rfl⟩)
      | (go_at_call 40; refine (has_raw p L N S s _ (by exact HP.out) (by unfold maxLen; omega)).mono ?_; rintro e w1 ⟨rfl, rfl⟩))
    go_ret
    exact open_no HP.out (by repeat (first | exact Tn.refl _ _ | apply Tn.drew | apply Tn.drewN | apply Tn.alloc | (refine Tn.then ?_ (by assumption)) | (refine Tn.thenNo ?_ (by assumption)))) HR.out (by omega)

set_option maxHeartbeats 1000000 in
set_option maxRecDepth 100000 in
theorem open_24 (p : Nat) (L : Nat → Option Lab) (N : Nat) (S : St) (s : ByteArray) (fl : Int) (w : World) (h : PW w p L N S) (h1 : s.size ≤ 255) (h2 : fl = 577 ∨ fl = 0 ∧ S.has s = true) (hz : zb s.data.toList = false) (h3 : ¬ s.size = 0) (hf : S.free = none) :
    Calls Tryz.prog 164 #[.pointer (some ⟨p, 0, none⟩), .string s, .int .i64 fl] w (OpenPost w p L N S s fl) := by
  have HP := hid h
  have hres : openRes S s fl = -24 := by
    unfold openRes
    rw [if_neg (by omega), if_neg (by rw [hz]; simp; omega), if_neg (by rcases h2 with rfl | ⟨rfl, e⟩; simp [h3]; simp [h3, e]), hf]
  have HR := hid hres
  have he : s.toList.isEmpty = false := by rw [toList_isEmpty]; simpa using h3
  have hfr : ∀ u, Tn No w u → Calls Tryz.prog 170 #[.pointer (some ⟨p, 0, none⟩)] u fun e w' => e = .returned (.tuple #[.int .i64 0, .bool false]) ∧ Tn No u w' := fun u t =>
    (free_raw p L N S u (h.no t)).mono (fun e w' ⟨t', r⟩ => by
      rcases r with ⟨k, _, e', _⟩ | ⟨_, e'⟩
      · rw [hf] at e'; cases e'
      · exact ⟨e', t'⟩)
  have HF := hid hfr
  clear h hres hf h3 hfr
  rcases h2 with rfl | ⟨rfl, hh⟩
  all_goals
    go_enter Tryz.func164, Tryz.ntmps164
    go_wp2_with (first
      | (go_at_call 71; refine (nought_raw _ _).mono ?_; rintro e w1 ⟨rfl, rfl⟩)
      | (go_at_call 40; refine (has_raw p L N S s _ (by exact HP.out) (by unfold maxLen; omega)).mono ?_; rintro e w1 ⟨rfl, rfl⟩)
      | (go_at_call 170; refine (HF.out _ (by repeat (first | exact Tn.refl _ _ | apply Tn.drew | apply Tn.drewN | apply Tn.alloc | (refine Tn.then ?_ (by assumption)) | (refine Tn.thenNo ?_ (by assumption))))).mono ?_; rintro e w2 ⟨rfl, ht2⟩))
    go_ret
    exact open_no HP.out (by repeat (first | exact Tn.refl _ _ | apply Tn.drew | apply Tn.drewN | apply Tn.alloc | (refine Tn.then ?_ (by assumption)) | (refine Tn.thenNo ?_ (by assumption)))) HR.out (by omega)

end Go.Proofs.YtoidddfpekbliaaGreat
namespace Go.Proofs.YtoidddfpekbliaaGreat
set_option linter.unusedSimpArgs false
set_option linter.unusedVariables false
open Go.RowKit
attribute [local go_sem ↓] Go.wp_at_zero Go.wp_at_succ

/-- a text goes on an event -/
def St.addTx (S : St) (i : Nat) (t : List UInt8) : St := { S with tr := S.tr.modify i (fun e => { e with text := e.text ++ t }) }

theorem PX.addTx {w : World} {p : Nat} {L : Nat → Option Lab} {N : Nat} {S : St} {c : Nat → Value} {mo : Option Nat} {iv tv : Value} {vs : Nat → Value} (h : PX w p L N S c mo iv tv vs) (i : Nat) (hi : i < S.tr.length) (s : ByteArray) (hN : N + s.size ≤ 1099511627776) :
    ∃ g cap v' w', tv = .slice (some ⟨g, 0, none⟩) S.tr.length cap ∧ S.tr.length ≤ cap ∧ cap ≤ 9223372036854775807 ∧ g < w.heap.size ∧ (Builtin.append_ #[23, 9] 23 #[vs i, .string s]).run Tryz.prog w = .ok v' w' ∧ (∃ a n cp, v' = .slice a n cp) ∧
      w.cell? ⟨g, 3 * i + 2, none⟩ = some (vs i) ∧ w'.cell? ⟨g, 3 * i + 2, none⟩ = some (vs i) ∧ w'.frozen? ⟨g, 3 * i + 2, none⟩ = false ∧ w'.cell? ⟨p, 60, none⟩ = some tv ∧ g < w'.heap.size ∧ p < w'.heap.size ∧
      ∃ L', PX (w'.setCell ⟨g, 3 * i + 2, none⟩ v') p L' (N + s.size) (S.addTx i s.data.toList) c mo iv tv (upd vs i v') ∧ Tn (fun k => L k ≠ none) w (w'.setCell ⟨g, 3 * i + 2, none⟩ v') ∧ (∀ k, k < w.heap.size → L k = none → L' k = none) := by
  obtain ⟨g, cap, htv, hg, hlc, hcm, hfz⟩ := h.ew.rw.pos (by omega)
  have hLg : L g = some .tr := h.ew.lab g (by rw [htv]; rfl)
  have hev := h.ew.ev i (S.tr[i]'hi) (List.getElem?_eq_getElem hi)
  obtain ⟨e0, e1, e2, ebr, elb, elen⟩ := hev
  have hsl : s.data.toList.length = s.size := by simp
  have hsrc : Src Tryz.prog 1 9 (.string s) s.data.toList.length (bc s.data.toList) w := by
    have := Src.ofString (P := Tryz.prog) w Tryz.underlying9 s
    rw [hsl]
    exact this
  obtain ⟨v', w', hr, hbr, hgr, hown⟩ := br_append 23 ebr hsrc (by rw [hsl]; omega)
  have hvc : ∀ u j, vc u tv j = u.cell? ⟨g, j, none⟩ := fun u j => by rw [htv]; rfl
  have hob : ∀ k, v'.ownBlock = some k → L k = some (.tx i) ∨ k = w.heap.size := fun k hk => by
    rcases hown with e | e
    · left; exact elb k (by rw [← e]; exact hk)
    · right; rw [e] at hk; cases hk; rfl
  -- blocks that are neither the text's nor new
  have hk : ∀ k, L k ≠ none → L k ≠ some (.tx i) → w'.heap[k]? = w.heap[k]? := fun k h1 h2 => hgr.block k (h.lt k h1) (fun e => h2 (elb k e.symm))
  have hks : ∀ k, k ≠ g → (w'.setCell ⟨g, 3 * i + 2, none⟩ v').heap[k]? = w'.heap[k]? := fun k hk => Below.heap_setCell _ _ _ _ hk
  have hng : ∀ k, L k ≠ some .tr → k ≠ g := fun k h1 e => h1 (by rw [e]; exact hLg)
  have hkk : ∀ k, L k ≠ none → L k ≠ some (.tx i) → L k ≠ some .tr → (w'.setCell ⟨g, 3 * i + 2, none⟩ v').heap[k]? = w.heap[k]? := fun k h1 h2 h3 => (hks k (hng k h3)).trans (hk k h1 h2)
  have hgk : w'.heap[g]? = w.heap[g]? := hk g (by rw [hLg]; simp) (by rw [hLg]; simp)
  have hgc : ∀ j, w'.cell? ⟨g, j, none⟩ = w.cell? ⟨g, j, none⟩ := fun j => World.cell?_of_block (w := w) (a := ⟨g, j, none⟩) hgk
  have hgf : ∀ j, w'.frozen? ⟨g, j, none⟩ = w.frozen? ⟨g, j, none⟩ := fun j => World.frozen?_of_block (w := w) (a := ⟨g, j, none⟩) hgk
  have hc2 : w.cell? ⟨g, 3 * i + 2, none⟩ = some (vs i) := by rw [← hvc]; exact e2
  have hpk : w'.heap[p]? = w.heap[p]? := hk p (by rw [h.labs]; simp) (by rw [h.labs]; simp)
  have hc60 : w'.cell? ⟨p, 60, none⟩ = some tv := by rw [World.cell?_of_block (w := w) (a := ⟨p, 60, none⟩) hpk, h.sc.cell 60 (by omega), h.c60]
  -- the labels
  obtain ⟨L', hL'⟩ : ∃ L' : Nat → Option Lab, L' = fun k => if v'.ownBlock = some k then some (.tx i) else L k := ⟨_, rfl⟩
  have up : ∀ {k : Nat} {x : Lab}, L k = some x → L' k = some x := fun {k x} e => by
    rw [hL']
    by_cases ek : v'.ownBlock = some k
    · simp only [ek, if_true]
      rcases hob k ek with e' | e'
      · rw [e'] at e; exact e
      · have := h.lt k (by rw [e]; simp); omega
    · simp only [ek, if_false]; exact e
  have tn : Tn (fun k => L k ≠ none) w (w'.setCell ⟨g, 3 * i + 2, none⟩ v') :=
    ((Tn.refl _ w).grown hgr (fun k e _ => by rw [elb k e]; simp)).set _ _ (fun _ => by show L g ≠ none; rw [hLg]; simp)
  obtain ⟨va, vcap, hvf, _⟩ := hbr.rw.form
  refine ⟨g, cap, v', w', htv, hlc, hcm, hg, hr, ⟨va, _, vcap, hvf⟩, hc2, (hgc _).trans hc2, (hgf _).trans (hfz _ (by omega)), hc60, Nat.lt_of_lt_of_le hg hgr.size, Nat.lt_of_lt_of_le h.sc.lt hgr.size, L', ?_, tn, fun k hk e => ?_⟩
  · have hm := h.mono (Nat.le_add_right N s.size)
    refine { sc := h.sc.kept (hkk p (by rw [h.labs]; simp) (by rw [h.labs]; simp) (by rw [h.labs]; simp)), c0 := h.c0, c1 := h.c1, c2 := h.c2, c60 := h.c60, cd := h.cd, pl := hm.pl, labs := up h.labs, lt := fun k hk => ?_, fm := ?_, inp := ?_, labi := fun g hg => up (h.labi g hg), rd := h.rd, ew := ?_ }
    · have e : (w'.setCell ⟨g, 3 * i + 2, none⟩ v').heap.size = w'.heap.size := by simp
      rw [e]
      by_cases ek : v'.ownBlock = some k
      · exact hbr.lt k ek
      · rw [hL'] at hk; simp only [ek, if_false] at hk
        exact Nat.lt_of_lt_of_le (h.lt k hk) hgr.size
    · have := hm.fm.kept2 (w' := w'.setCell ⟨g, 3 * i + 2, none⟩ v') (fun k hl => by
        rcases hl with hl | ⟨n, hl⟩ <;> exact hkk k (by rw [hl]; simp) (by rw [hl]; simp) (by rw [hl]; simp))
      rcases this with h | ⟨b, n, D, e, hn, hb, hown, hf⟩
      · exact .inl h
      · exact .inr ⟨b, n, D, e, hn, up hb, hown, fun k => ⟨(hf k).1, fun l hl => by
          obtain ⟨v, hv, hbr, hlab, hlen⟩ := (hf k).2 l hl
          exact ⟨v, hv, hbr, fun g hg => up (hlab g hg), hlen⟩⟩⟩
    · exact h.inp.kept (fun k hk => hkk k (by rw [h.labi k hk]; simp) (by rw [h.labi k hk]; simp) (by rw [h.labi k hk]; simp))
    · have hlen2 : (S.addTx i s.data.toList).tr.length = S.tr.length := by simp [St.addTx]
      have hcell : ∀ j, j ≠ 3 * i + 2 → (w'.setCell ⟨g, 3 * i + 2, none⟩ v').cell? ⟨g, j, none⟩ = w.cell? ⟨g, j, none⟩ := fun j hj => by
        rw [World.cell?_setCell_other _ _ _ _ (by intro e; cases e; exact hj rfl)]; exact hgc j
      have hcell2 : (w'.setCell ⟨g, 3 * i + 2, none⟩ v').cell? ⟨g, 3 * i + 2, none⟩ = some v' := World.cell?_setCell_same _ _ _ ((hgc _).trans hc2)
      refine ⟨?_, fun k hk => up (h.ew.lab k hk), by rw [hlen2]; exact hm.ew.len, fun j e he => ?_⟩
      · rw [hlen2]
        rcases h.ew.rw with ⟨e, _⟩ | ⟨g2, cap2, e, hg2, a1, a2, a3⟩
        · rw [htv] at e; cases e
        · rw [htv] at e; cases e
          refine .inr ⟨g, cap, htv, by simpa using Nat.lt_of_lt_of_le hg hgr.size, a1, a2, fun j hj => ?_⟩
          rw [World.frozen?_setCell, hgf]
          refine ⟨?_, (a3 j hj).2⟩
          by_cases ej : j = 3 * i + 2
          · subst ej; rw [hcell2]; rfl
          · rw [hcell j ej]; exact (a3 j hj).1
      · have hj : j < S.tr.length := by
          have := (List.getElem?_eq_some_iff.1 he).1
          omega
        obtain ⟨f0, f1, f2, fbr, flab, flen⟩ := h.ew.ev j (S.tr[j]'hj) (List.getElem?_eq_getElem hj)
        by_cases ej : j = i
        · subst ej
          have he' : e = { S.tr[j] with text := S.tr[j].text ++ s.data.toList } := by
            have : S.tr[j]? = some (S.tr[j]'hj) := List.getElem?_eq_getElem hj
            simp [St.addTx, List.getElem?_modify, this] at he
            exact he.symm
          subst he'
          refine ⟨?_, ?_, ?_, ?_, fun k hk => ?_, ?_⟩
          · rw [hvc, hcell _ (by omega), ← hvc]; exact f0
          · rw [hvc, hcell _ (by omega), ← hvc]; exact f1
          · rw [hvc, hcell2, upd_same]
          · rw [upd_same]
            exact hbr.kept (fun k hk => hks k (by
              rintro rfl
              rcases hob k hk with e | e
              · rw [hLg] at e; cases e
              · omega))
          · rw [upd_same] at hk; rw [hL']; simp only [hk, if_true]
          · simp only [List.length_append, hsl]; omega
        · have he' : e = S.tr[j] := by
            have : S.tr[j]? = some (S.tr[j]'hj) := List.getElem?_eq_getElem hj
            simp [St.addTx, List.getElem?_modify, this, Ne.symm ej] at he
            exact he.symm
          subst he'
          refine ⟨?_, ?_, ?_, ?_, fun k hk => ?_, by omega⟩
          · rw [hvc, hcell _ (by omega), ← hvc]; exact f0
          · rw [hvc, hcell _ (by omega), ← hvc]; exact f1
          · rw [hvc, hcell _ (by omega), ← hvc, upd_other _ _ ej]; exact f2
          · rw [upd_other _ _ ej]
            exact fbr.kept (fun k hk => hkk k (by rw [flab k hk]; simp) (by rw [flab k hk]; simp; omega) (by rw [flab k hk]; simp))
          · rw [upd_other _ _ ej] at hk; exact up (flab k hk)
  · rw [hL']
    by_cases ek : v'.ownBlock = some k
    · exfalso
      rcases hob k ek with e' | e'
      · rw [e] at e'; cases e'
      · omega
    · simp only [ek, if_false]; exact e
end Go.Proofs.YtoidddfpekbliaaGreat
