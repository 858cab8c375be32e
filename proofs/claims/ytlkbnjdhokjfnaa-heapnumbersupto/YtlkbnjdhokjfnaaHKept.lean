/-
  heap: the laws' kept.
-/
import Derived.Test.YtlkbnjdhokjfnaaHOwA
import Derived.Test.YtlkbnjdhokjfnaaREqual
namespace Go.Proofs.Ytlkbnjdhokjfnaa
set_option linter.unusedSimpArgs false
set_option linter.unusedVariables false
open Go.RowKit
attribute [local go_sem ↓] Go.wp_at_zero Go.wp_at_succ

set_option maxHeartbeats 8000000 in
set_option maxRecDepth 100000 in
theorem kept_raw (tv rv tv' rv' : Value) (us ts : List Th) (rs rs' : List Rf) (w : World) (h : GA w tv rv us rs) (mk : Marks w rv us rs) (h' : GA w tv' rv' ts rs') :
    Calls Try.prog 23 #[.agg #[tv, rv], .agg #[tv', rv']] w fun e w' => e = .returned (.bool (eqG us ts rs rs')) ∧ Tn No w w' := by
  obtain ⟨wB, hwB⟩ : ∃ wB, (w.alloc (.cells #[tv, rv] 27)).alloc (.cells #[tv', rv'] 27) = wB := ⟨_, rfl⟩
  have tB : Tn No w wB := by rw [← hwB]; exact ((Tn.refl No w).alloc _).alloc _
  have sB : wB.heap.size = w.heap.size + 2 := by rw [← hwB]; simp
  have b1 : wB.heap[w.heap.size]? = some (.cells #[tv, rv] 27 (0, 0)) := by
    rw [← hwB, Below.heap_alloc _ _ _ (by simp)]; exact heap_alloc_new w _
  have b2 : wB.heap[w.heap.size + 1]? = some (.cells #[tv', rv'] 27 (0, 0)) := by
    have := heap_alloc_new (w.alloc (.cells #[tv, rv] 27)) (.cells #[tv', rv'] 27)
    rw [hwB] at this
    simpa using this
  have HS : Hid (∀ u, Tn No wB u → u.cell? ⟨w.heap.size, 0, none⟩ = some tv ∧ u.cell? ⟨w.heap.size, 1, none⟩ = some rv ∧ u.cell? ⟨w.heap.size + 1, 0, none⟩ = some tv' ∧ u.cell? ⟨w.heap.size + 1, 1, none⟩ = some rv' ∧ w.heap.size + 1 < u.heap.size ∧ w.heap.size < u.heap.size) := hid (fun u t => by
    have z := t.size
    exact ⟨by rw [t.cell (by omega) (fun e => e)]; simp only [World.cell?, b1]; rfl, by rw [t.cell (by omega) (fun e => e)]; simp only [World.cell?, b1]; rfl, by rw [t.cell (by omega) (fun e => e)]; simp only [World.cell?, b2]; rfl, by rw [t.cell (by omega) (fun e => e)]; simp only [World.cell?, b2]; rfl, by omega, by omega⟩)
  have HEQ : Hid (∀ u, Tn No wB u → Calls Try.prog 19 #[.agg #[tv, rv], .agg #[tv', rv']] u fun e w' => e = .returned (.bool (eqG us ts rs rs')) ∧ Tn No u w') := hid (fun u t => rEqual_raw tv rv tv' rv' us ts rs rs' u (h.no (tB.then t)) (h'.no (tB.then t)))
  have HMK : Hid (∀ (x : Nat) (t : Th), us[x]? = some t → ∃ g, t.rv = .slice (some ⟨g, 0, none⟩) t.refs.length (t.refs.length + 1) ∧ g < w.heap.size ∧ w.cell? ⟨g, t.refs.length * 2 + 1, none⟩ = some (.int .i64 77) ∧ t.refs.length ≤ 1073741824) := hid (fun x t e => by
    obtain ⟨g, hg⟩ := mk.mkd t (List.mem_of_getElem? e)
    exact ⟨g, hg.eq, hg.lr.rw.lt g (by rw [hg.eq]; rfl), hg.mark, (h.each t (List.mem_of_getElem? e)).len⟩)
  obtain ⟨gr, hgr⟩ := mk.mr
  have hrl := h.rlen
  have hglt : gr < w.heap.size := hgr.lr.rw.lt gr (by rw [hgr.eq]; rfl)
  have hgm := hgr.mark
  have hrv := hgr.eq
  have HTB := hid tB
  have htl := h.tlen
  obtain ⟨ta, tc, htv, hc, hcm, hat⟩ := h.things
  obtain ⟨ra', rc', hrv', _⟩ := h'.roots
  obtain ⟨ta', tc', htv', _⟩ := h'.things
  obtain ⟨rn, hrn⟩ : ∃ n, rs.length = n := ⟨_, rfl⟩
  rw [hrn] at hrv hgm hrl
  obtain ⟨m, hm⟩ : ∃ m, us.length = m := ⟨_, rfl⟩
  have HM := hid hm
  rw [hm] at htv htl hc
  subst hrv htv hrv' htv'
  have HAT := hid hat
  obtain ⟨q, hq⟩ : ∃ q, eqG us ts rs rs' = q := ⟨_, rfl⟩
  rw [hq] at HEQ ⊢
  clear h h' mk hgr tB b1 b2 hat hrn hm hq
  subst hwB
  clear sB
  go_enter Try.func23, Try.ntmps23
  go_wp2_with fail
  go_loopw [5] (fun i wr => ∃ k : Nat, k ≤ m ∧ i = .int .i64 (k : Int) ∧ wr = ((w.alloc (.cells #[.slice ta m tc, .slice (some ⟨gr, 0, none⟩) rn (rn + 1)] 27)).alloc (.cells #[.slice ta' ts.length tc', .slice ra' rs'.length rc'] 27))) (fun i _ => m - (intOf i).toNat)
  case atStart => exact ⟨0, by omega, rfl, rfl⟩
  case round =>
    obtain ⟨k, hk, rfl, rfl⟩ := hrel
    obtain ⟨W, hW⟩ : ∃ W, ((w.alloc (.cells #[.slice ta m tc, .slice (some ⟨gr, 0, none⟩) rn (rn + 1)] 27)).alloc (.cells #[.slice ta' ts.length tc', .slice ra' rs'.length rc'] 27)) = W := ⟨_, rfl⟩
    rw [hW] at HS HEQ HTB ⊢
    clear hW
    obtain ⟨p0, p1, p2, p3, p4, p5⟩ := HS.out W (Tn.refl _ _)
    by_cases hlt : k < m
    · have hkl : k < us.length := by have := HM.out; omega
      obtain ⟨g, o, rfl, hg, hcell⟩ := HAT.out (by omega)
      have q3 := (thing_cells hcell k hkl).2.2.2
      obtain ⟨gb, hrv, hgb, hmark, hlen⟩ := HMK.out k _ (List.getElem?_eq_getElem hkl)
      rw [← HTB.out.cell hg (fun e => e)] at q3
      rw [← HTB.out.cell hgb (fun e => e)] at hmark
      rw [hrv] at q3
      generalize us[k].refs.length = n at *
      have hki : (k : Int) < (m : Int) := by omega
      have hb1 : g < W.heap.size := Nat.lt_of_lt_of_le hg HTB.out.size
      have hb2 : gb < W.heap.size := Nat.lt_of_lt_of_le hgb HTB.out.size
      clear hcell hrv HAT HMK hkl
      go_wp2
      go_roundw
      case rel => exact ⟨k + 1, by omega, by go_num, trivial⟩
      case measure => simp [intOf]; omega
    · obtain rfl : k = m := by omega
      rw [← HTB.out.cell hglt (fun e => e)] at hgm
      have hb2 : gr < W.heap.size := Nat.lt_of_lt_of_le hglt HTB.out.size
      clear HAT HMK
      go_wp2_with (go_at_call 19; refine (HEQ.out _ (Tn.refl No W)).mono ?_; rintro e w2 ⟨rfl, t2⟩; have HT2 := hid t2; clear t2)
      go_ret
      exact ⟨rfl, HTB.out.then HT2.out⟩
end Go.Proofs.Ytlkbnjdhokjfnaa
