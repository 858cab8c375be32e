/-
  The reference's world before it has descriptors (made by gen_ry.py).
-/
import Derived.Test.YtkbdgdcicflocaaRef22
namespace Go.Proofs.Ytkbdgdcicflocaa
set_option linter.unusedSimpArgs false
set_option linter.unusedVariables false
open Go.RowKit
attribute [local go_sem ↓] Go.wp_at_zero Go.wp_at_succ

structure RY (w : World) (q : Nat) (L : Nat → Option Lab) (N : Nat) (S : St) (fl : List (ByteArray × List UInt8)) (lv tv : Value) (bv : Nat → Value) : Prop where
  qlt : q < w.heap.size
  c0 : w.cell? ⟨q, 0, none⟩ = some lv
  c1 : w.cell? ⟨q, 1, none⟩ = some (.string (str (S.inp.drop S.rd)))
  c2 : w.cell? ⟨q, 2, none⟩ = some (.slice none 0 0)
  c3 : w.cell? ⟨q, 3, none⟩ = some tv
  fz : ∀ i, w.frozen? ⟨q, i, none⟩ = false
  labs : L q = some .st
  tr : TV w tv S.tr
  labt : ∀ g, tv.ownBlock = some g → L g = some .tr
  tlen : S.tr.length ≤ N ∧ ∀ e ∈ S.tr, e.text.length ≤ N
  row : RW w 2 lv fl.length
  labl : ∀ g, lv.ownBlock = some g → L g = some .mp
  lc : ∀ i (h : i < fl.length), vc w lv (2 * i) = some (.string fl[i].1) ∧ vc w lv (2 * i + 1) = some (bv i) ∧ BR w (bv i) fl[i].2 ∧ (∀ g, (bv i).ownBlock = some g → L g = some (.fl fl[i].1.data.toList)) ∧ fl[i].2.length ≤ N ∧ fl[i].1.size ≤ 255
  len : fl.length ≤ N
  lt : ∀ k, L k ≠ none → k < w.heap.size
  fs : S.fs = fsOf fl
  up : fl.Pairwise (fun a b => a.1.data.toList < b.1.data.toList)
  rd : S.rd ≤ S.inp.length

theorem RY.kept {w w' : World} {q : Nat} {L : Nat → Option Lab} {N : Nat} {S : St} {fl : List (ByteArray × List UInt8)} {lv tv : Value} {bv : Nat → Value} (h : RY w q L N S fl lv tv bv) (hs : w.heap.size ≤ w'.heap.size) (hk : ∀ k, L k ≠ none → w'.heap[k]? = w.heap[k]?) : RY w' q L N S fl lv tv bv := by
  have hq := hk q (by rw [h.labs]; simp)
  have cq : ∀ i, w'.cell? ⟨q, i, none⟩ = w.cell? ⟨q, i, none⟩ := fun i => World.cell?_of_block (w := w) (a := ⟨q, i, none⟩) hq
  have hl : ∀ g, lv.ownBlock = some g → w'.heap[g]? = w.heap[g]? := fun g hg => hk g (by rw [h.labl g hg]; simp)
  refine { h with qlt := Nat.lt_of_lt_of_le h.qlt hs, c0 := (cq 0).trans h.c0, c1 := (cq 1).trans h.c1, c2 := (cq 2).trans h.c2, c3 := (cq 3).trans h.c3, fz := fun i => ?_, tr := h.tr.kept (fun g hg => hk g (by rw [h.labt g hg]; simp)), row := h.row.kept hl, lc := fun i hi => ?_, lt := fun k hk' => Nat.lt_of_lt_of_le (h.lt k hk') hs }
  · have := h.fz i
    simp only [World.frozen?, hq] at this ⊢
    exact this
  · obtain ⟨a, b, c, e, f, g⟩ := h.lc i hi
    exact ⟨(vc_kept hl _).trans a, (vc_kept hl _).trans b, c.kept (fun g hg => hk g (by rw [e g hg]; simp)), e, f, g⟩

theorem RY.no {w w' : World} {q : Nat} {L : Nat → Option Lab} {N : Nat} {S : St} {fl : List (ByteArray × List UInt8)} {lv tv : Value} {bv : Nat → Value} (h : RY w q L N S fl lv tv bv) (t : Tn No w w') : RY w' q L N S fl lv tv bv := h.kept t.size (fun k hk => t.block k (h.lt k hk) (fun e => e))
def PY (w : World) (q : Nat) (L : Nat → Option Lab) (N : Nat) (S : St) : Prop := ∃ fl lv tv bv, RY w q L N S fl lv tv bv
def YLft (w : World) (q : Nat) (L : Nat → Option Lab) (w' : World) (N' : Nat) (S' : St) : Prop :=
  ∃ L', PY w' q L' N' S' ∧ Tn (fun k => L k ≠ none) w w' ∧ ∀ k, k < w.heap.size → L k = none → L' k = none

set_option maxHeartbeats 2000000 in
set_option maxRecDepth 100000 in
theorem yfind_raw (w : World) (q : Nat) (L : Nat → Option Lab) (N : Nat) (S : St) (fl : List (ByteArray × List UInt8)) (lv tv : Value) (bv : Nat → Value) (h : RY w q L N S fl lv tv bv) (nm : ByteArray) (hN : N ≤ 1099511627776) :
    Calls Try.prog 30 #[.pointer (some ⟨q, 0, none⟩), .string nm] w fun e w' => e = .returned (.int .i64 (findAt fl nm)) ∧ w' = w := by
  obtain ⟨a, cap, rfl, hlc, hcm, hnil, hsome⟩ := h.row.form
  have k0 := h.c0
  have hlen := h.len
  obtain ⟨n, hn⟩ : ∃ n, fl.length = n := ⟨_, rfl⟩
  rw [hn] at k0 hlc hnil hlen
  have HX := hid h
  have HN := hid hn
  have HNIL := hid hnil
  have HSOME := hid hsome
  clear h hn hnil hsome
  go_enter Try.func30, Try.ntmps30
  go_wp2
  go_loop [5] (fun i => ∃ k : Nat, k ≤ n ∧ i = .int .i64 (k : Int) ∧ Hid (∀ j (hj : j < fl.length), j < k → ¬ fl[j].1 = nm)) (fun i => n - (intOf i).toNat)
  case atStart => exact ⟨0, by omega, rfl, hid (fun j _ h => by omega)⟩
  case round =>
    obtain ⟨k, hk, rfl, HP⟩ := hrel
    by_cases hlt : k < n
    · cases a with
      | none => have := (HNIL.out rfl).1; omega
      | some x =>
      obtain ⟨hxe, hxl⟩ := HSOME.out x rfl
      obtain ⟨g, o, sp⟩ := x
      cases hxe
      have hkl : k < fl.length := by rw [HN.out]; exact hlt
      have e0 := (HX.out.lc k hkl).1
      rw [Nat.mul_comm 2 k] at e0
      obtain ⟨f, hf⟩ : ∃ f, (fl[k]'hkl).1 = f := ⟨_, rfl⟩
      rw [hf] at e0
      have q0 : w.cell? ⟨g, k * 2, none⟩ = some (.string f) := e0
      have hki : (k : Int) < (n : Int) := by omega
      have HF := hid hf
      clear e0 hf
      by_cases he : f = nm
      · have hd1 : (f.toList == nm.toList) = true := by rw [he]; exact beq_self_eq_true _
        have hfa : findAt fl nm = (k : Int) := by
          have : fl.findIdx? (fun f => decide (f.1 = nm)) = some k := by
            rw [List.findIdx?_eq_some_iff_getElem]
            exact ⟨hkl, by rw [HF.out, he]; simp, fun j hj => by simpa using HP.out j (by omega) hj⟩
          unfold findAt
          rw [this]
        have HFA := hid hfa
        clear hfa he HX HNIL HSOME
        go_wp2
        go_ret
        exact ⟨ret_int HFA.out.symm, rfl⟩
      · have hd1 : (f.toList == nm.toList) = false := by
          rw [beq_eq_false_iff_ne]
          intro h
          apply he
          rw [ByteArray.toList_eq, ByteArray.toList_eq] at h
          cases f; cases nm
          simpa using h
        have HNE := hid he
        clear he HX HNIL HSOME
        go_wp2
        go_round
        case rel => exact ⟨k + 1, by omega, by go_num, hid (fun j hj h => by
          by_cases e : j = k
          · subst e; rw [HF.out]; exact HNE.out
          · exact HP.out j hj (by omega))⟩
        case measure => simp [intOf]; omega
    · obtain rfl : k = n := by omega
      have hfa : findAt fl nm = -1 := by
        have : fl.findIdx? (fun f => decide (f.1 = nm)) = none := by
          rw [List.findIdx?_eq_none_iff]
          intro x hx
          obtain ⟨j, hj, e⟩ := List.mem_iff_getElem.1 hx
          rw [← e]
          simpa using HP.out j hj (by rw [HN.out] at hj; exact hj)
        unfold findAt
        rw [this]
      have HFA := hid hfa
      clear hfa HX HNIL HSOME
      go_wp2
      go_ret
      exact ⟨ret_int HFA.out.symm, rfl⟩

/-- a pair goes behind the others, and the slice is written to the world -/
theorem RY.addFile {w : World} {q : Nat} {L : Nat → Option Lab} {N : Nat} {S : St} {fl : List (ByteArray × List UInt8)} {lv tv : Value} {bv : Nat → Value} (h : RY w q L N S fl lv tv bv) (hN : N + 1 ≤ 1099511627776) (nm : ByteArray) (ba : Option Addr) (bn bc' : Nat) :
    ∃ g cap wa, (Builtin.append_ #[73, 73] 73 #[lv, .slice (some ⟨w.heap.size, 0, none⟩) 1 1]).run Try.prog (w.alloc (.cells #[.string nm, .slice ba bn bc'] 89)) = .ok (.slice (some ⟨g, 0, none⟩) (fl.length + 1) cap) wa ∧
      wa.cell? ⟨q, 0, none⟩ = some lv ∧ (∀ i, wa.frozen? ⟨q, i, none⟩ = false) ∧ q < wa.heap.size ∧ g < wa.heap.size ∧ fl.length + 1 ≤ cap ∧ cap ≤ 9223372036854775807 ∧ g ≠ q ∧ (L g = some .mp ∨ (L g = none ∧ w.heap.size ≤ g)) ∧
      RW (wa.setCell ⟨q, 0, none⟩ (.slice (some ⟨g, 0, none⟩) (fl.length + 1) cap)) 2 (.slice (some ⟨g, 0, none⟩) (fl.length + 1) cap) (fl.length + 1) ∧
      RowAt (wa.setCell ⟨q, 0, none⟩ (.slice (some ⟨g, 0, none⟩) (fl.length + 1) cap)) (wa.setCell ⟨q, 0, none⟩ (.slice (some ⟨g, 0, none⟩) (fl.length + 1) cap)) g fl.length (ins (pairs fl bv) (nm, .slice ba bn bc') fl.length) ∧
      (∀ k, L k ≠ none → L k ≠ some .mp → k ≠ q → (wa.setCell ⟨q, 0, none⟩ (.slice (some ⟨g, 0, none⟩) (fl.length + 1) cap)).heap[k]? = w.heap[k]?) ∧
      (∀ i, i ≠ 0 → (wa.setCell ⟨q, 0, none⟩ (.slice (some ⟨g, 0, none⟩) (fl.length + 1) cap)).cell? ⟨q, i, none⟩ = w.cell? ⟨q, i, none⟩) ∧
      Tn (fun k => L k ≠ none) w (wa.setCell ⟨q, 0, none⟩ (.slice (some ⟨g, 0, none⟩) (fl.length + 1) cap)) := by
  obtain ⟨W, hW⟩ : ∃ W, w.alloc (.cells #[.string nm, .slice ba bn bc'] 89) = W := ⟨_, rfl⟩
  have tW : Tn No w W := by rw [← hW]; exact (Tn.refl No w).alloc _
  have hzW : W.heap.size = w.heap.size + 1 := by rw [← hW]; simp
  have hcW : ∀ j, W.cell? ⟨w.heap.size, j, none⟩ = (#[.string nm, .slice ba bn bc'] : Array Value)[j]? := fun j => by rw [← hW, World.cell?_alloc_at _ _ _ _ (by simp)]
  rw [hW]
  have hx1 := h.no tW
  obtain ⟨i, hi, hz0, hz1, hz2⟩ := info_parts fi_info
  have hsrc : Src Try.prog 2 73 (.slice (some ⟨w.heap.size, 0, none⟩) 1 1) 1 [.string nm, .slice ba bn bc'] W :=
    Src.ofSlice _ Try.underlying73 _ 1 1 _ rfl (fun j u hu => by rw [addr_add, hcW]; simpa using hu) (fun u hu => by simp at hu; rcases hu with rfl | rfl <;> rfl)
  have hlen := h.len
  obtain ⟨v', wa, hr, hrw, hold, hnew, hgr, hown⟩ := rw_append 73 89 i _ 2 40 Try.underlying73 hi hz0 hz1 hz2 rfl hx1.row hsrc (by unfold maxLen; omega) (by omega) (by omega)
  obtain ⟨g, cap, rfl, hg, hnc, hcm, hfz⟩ := hrw.pos (by omega)
  have hg2 : L g = some .mp ∨ g = W.heap.size := by
    rcases hown with e | e
    · left; exact h.labl g e.symm
    · right; exact Option.some.inj e
  have hgq : g ≠ q := by
    rintro rfl
    rcases hg2 with e | e
    · rw [h.labs] at e; cases e
    · have := hx1.qlt; omega
  have hk : ∀ k, L k ≠ none → L k ≠ some .mp → wa.heap[k]? = W.heap[k]? := fun k h1 h2 => hgr.block k (hx1.lt k h1) (fun e => h2 (h.labl k e.symm))
  have hq := hk q (by rw [h.labs]; simp) (by rw [h.labs]; simp)
  have cq : ∀ i, wa.cell? ⟨q, i, none⟩ = W.cell? ⟨q, i, none⟩ := fun i => World.cell?_of_block (w := W) (a := ⟨q, i, none⟩) hq
  have cw : ∀ i, W.cell? ⟨q, i, none⟩ = w.cell? ⟨q, i, none⟩ := fun i => tW.cell h.qlt (fun e => e)
  have fq : ∀ i, wa.frozen? ⟨q, i, none⟩ = false := fun i => by
    have := hx1.fz i
    simp only [World.frozen?, hq] at this ⊢
    exact this
  have c0 : wa.cell? ⟨q, 0, none⟩ = some lv := (cq 0).trans hx1.c0
  obtain ⟨wb, hwb⟩ : ∃ wb, wa.setCell ⟨q, 0, none⟩ (.slice (some ⟨g, 0, none⟩) (fl.length + 1) cap) = wb := ⟨_, rfl⟩
  have hob : ∀ k, k ≠ q → wb.heap[k]? = wa.heap[k]? := fun k hk => by rw [← hwb]; exact Below.heap_setCell _ _ _ _ hk
  have hzb : wb.heap.size = wa.heap.size := by rw [← hwb]; simp
  have cb : ∀ i, wb.cell? ⟨g, i, none⟩ = wa.cell? ⟨g, i, none⟩ := fun i => World.cell?_of_block (w := wa) (a := ⟨g, i, none⟩) (hob g hgq)
  have hrb : RW wb 2 (.slice (some ⟨g, 0, none⟩) (fl.length + 1) cap) (fl.length + 1) := hrw.kept (fun k e => by cases e; exact hob g hgq)
  refine ⟨g, cap, wa, hr, c0, fq, Nat.lt_of_lt_of_le hx1.qlt hgr.size, hg, hnc, hcm, hgq, ?_, ?_, ?_, ?_, ?_, ?_⟩
  · rcases hg2 with e | e
    · exact .inl e
    · right
      refine ⟨?_, by omega⟩
      cases hl : L g with
      | none => rfl
      | some x => have := h.lt g (by rw [hl]; simp); omega
  · rw [hwb]; exact hrb
  · rw [hwb]
    refine ⟨Tn.refl _ _, rfl, fun _ _ => rfl, fun j hj => ?_, fun _ h => h, fun _ => rfl⟩
    rw [cb, cb]
    by_cases hjl : j < fl.length
    · have e : ins (pairs fl bv) (nm, .slice ba bn bc') fl.length j = pairs fl bv j := by unfold ins; rw [if_pos hjl]
      obtain ⟨a1, a2, _⟩ := hx1.lc j hjl
      rw [e, pairs_get hjl]
      have o1 : wa.cell? ⟨g, j * 2, none⟩ = vc W lv (j * 2) := hold (j * 2) (by omega)
      have o2 : wa.cell? ⟨g, j * 2 + 1, none⟩ = vc W lv (j * 2 + 1) := hold (j * 2 + 1) (by omega)
      rw [o1, o2, Nat.mul_comm j 2]
      exact ⟨a1, a2⟩
    · obtain rfl : j = fl.length := by omega
      have e : ins (pairs fl bv) (nm, .slice ba bn bc') fl.length fl.length = (nm, .slice ba bn bc') := by simp [ins]
      rw [e]
      have o1 : wa.cell? ⟨g, fl.length * 2 + 0, none⟩ = _ := hnew 0 (by simp)
      have o2 : wa.cell? ⟨g, fl.length * 2 + 1, none⟩ = _ := hnew 1 (by simp)
      exact ⟨o1, o2⟩
  · rw [hwb]
    intro k h1 h2 h3
    rw [hob k h3, hk k h1 h2]
    exact tW.block k (h.lt k h1) (fun e => e)
  · intro i hi
    rw [World.cell?_setCell_other _ _ _ _ (by intro e; cases e; exact hi rfl), cq, cw]
  · exact ((tW.any).grown hgr (fun i e _ => by rw [h.labl i e]; simp)).set _ _ (fun _ => by rw [h.labs]; simp)

theorem RY.inserted {w wb wr : World} {q : Nat} {L : Nat → Option Lab} {N : Nat} {S : St} {fl : List (ByteArray × List UInt8)} {lv tv : Value} {bv : Nat → Value} (h : RY w q L N S fl lv tv bv) (nm : ByteArray) (b : Value) (l : List UInt8) (g cap p : Nat) (hp : p ≤ fl.length)
    (hgq : g ≠ q) (hgL : L g = some .mp ∨ (L g = none ∧ w.heap.size ≤ g)) (hrb : RW wb 2 (.slice (some ⟨g, 0, none⟩) (fl.length + 1) cap) (fl.length + 1)) (hr : RowAt wb wr g fl.length (ins (pairs fl bv) (nm, b) p))
    (hk : ∀ k, L k ≠ none → L k ≠ some .mp → k ≠ q → wb.heap[k]? = w.heap[k]?) (hq0 : wb.cell? ⟨q, 0, none⟩ = some (.slice (some ⟨g, 0, none⟩) (fl.length + 1) cap)) (hq : ∀ i, i ≠ 0 → wb.cell? ⟨q, i, none⟩ = w.cell? ⟨q, i, none⟩) (hqz : ∀ i, wb.frozen? ⟨q, i, none⟩ = false) (ht : Tn (fun k => L k ≠ none) w wb)
    (hno : ∀ j (hj : j < fl.length), fl[j].1.data.toList ≠ nm.data.toList) (h1 : ∀ j (hj : j < fl.length), j < p → fl[j].1.data.toList < nm.data.toList) (h2 : ∀ j (hj : j < fl.length), p ≤ j → nm.data.toList < fl[j].1.data.toList)
    (hbr : BR w b l) (hbl : ∀ k, b.ownBlock = some k → L k = some (.fl nm.data.toList)) (hl : l.length ≤ N + 1) (hnm : nm.size ≤ 255) : YLft w q L wr (N + 1) (S.put nm.data.toList l) := by
  have hub : ∀ k x, L k = some x → upd L g (some .mp) k = some x := fun k x e => by
    by_cases ek : k = g
    · subst ek
      rw [upd_same]
      rcases hgL with e' | e'
      · rw [e'] at e; exact e
      · rw [e'.1] at e; cases e
    · rw [upd_other _ _ ek]; exact e
  have hgz : g < wr.heap.size := by rw [hr.size]; exact hrb.lt g rfl
  have hwr : ∀ k x, L k = some x → x ≠ .mp → k ≠ q → wr.heap[k]? = w.heap[k]? := fun k x e1 e2 e3 => by
    have hkg : k ≠ g := by
      rintro rfl
      rcases hgL with e' | e'
      · rw [e1] at e'; cases e'; exact e2 rfl
      · rw [e'.1] at e1; cases e1
    rw [hr.oth k hkg]
    exact hk k (by rw [e1]; simp) (by rw [e1]; intro e; cases e; exact e2 rfl) e3
  have hwq : wr.heap[q]? = wb.heap[q]? := hr.oth q (fun e => hgq e.symm)
  have cq : ∀ i, wr.cell? ⟨q, i, none⟩ = wb.cell? ⟨q, i, none⟩ := fun i => World.cell?_of_block (w := wb) (a := ⟨q, i, none⟩) hwq
  have nq : ∀ k x, L k = some x → x ≠ .st → k ≠ q := fun k x e1 e2 e3 => by rw [e3, h.labs] at e1; cases e1; exact e2 rfl
  have hlen := insF_length fl (nm, l) p hp
  have hrw : RW wr 2 (.slice (some ⟨g, 0, none⟩) (fl.length + 1) cap) (fl.length + 1) := by
    rcases hrb with ⟨e, _⟩ | ⟨g', cap', e, hg, c1, c2, c3⟩
    · cases e
    · cases e
      exact .inr ⟨g, cap, rfl, hgz, c1, c2, fun j hj => ⟨hr.some' j (c3 j hj).1, (hr.fz j).trans (c3 j hj).2⟩⟩
  refine ⟨upd L g (some .mp), ⟨insF fl (nm, l) p, .slice (some ⟨g, 0, none⟩) (fl.length + 1) cap, tv, fun j => (ins (pairs fl bv) (nm, b) p j).2, ?_⟩, ht.trans hr.tn (fun _ _ e => e) (fun i hi e => ?_), fun k hk' e => ?_⟩
  · refine { qlt := Nat.lt_of_lt_of_le h.qlt (by rw [hr.size]; exact ht.size), c0 := (cq 0).trans hq0, c1 := ((cq 1).trans (hq 1 (by omega))).trans h.c1, c2 := ((cq 2).trans (hq 2 (by omega))).trans h.c2, c3 := ((cq 3).trans (hq 3 (by omega))).trans h.c3, fz := fun j => ?_, labs := hub _ _ h.labs, tr := h.tr.kept (fun k hk' => hwr k _ (h.labt k hk') (by simp) (nq k _ (h.labt k hk') (by simp))), labt := fun k hk' => hub _ _ (h.labt k hk'), tlen := ⟨Nat.le_trans h.tlen.1 (by omega), fun e he => Nat.le_trans (h.tlen.2 e he) (by omega)⟩, row := by rw [hlen]; exact hrw, labl := fun k e => (by cases e; exact upd_same _ _ _), lc := fun j hj => ?_, len := by rw [hlen]; have := h.len; omega, lt := fun k hk' => ?_, fs := ?_, up := ?_, rd := h.rd }
    · have := hqz j
      simp only [World.frozen?, hwq] at this ⊢
      exact this
    · obtain ⟨g1, g2, g3⟩ := insF_get fl (nm, l) p hp j hj
      have hjn : j ≤ fl.length := by omega
      obtain ⟨c0, c1⟩ := hr.c j hjn
      rw [Nat.mul_comm j 2] at c0 c1
      have old : ∀ i (hi : i < fl.length), (insF fl (nm, l) p)[j] = fl[i] → ins (pairs fl bv) (nm, b) p j = pairs fl bv i →
          vc wr (.slice (some ⟨g, 0, none⟩) (fl.length + 1) cap) (2 * j) = some (.string (insF fl (nm, l) p)[j].1) ∧ vc wr (.slice (some ⟨g, 0, none⟩) (fl.length + 1) cap) (2 * j + 1) = some (ins (pairs fl bv) (nm, b) p j).2 ∧ BR wr (ins (pairs fl bv) (nm, b) p j).2 (insF fl (nm, l) p)[j].2 ∧ (∀ g', (ins (pairs fl bv) (nm, b) p j).2.ownBlock = some g' → upd L g (some .mp) g' = some (.fl (insF fl (nm, l) p)[j].1.data.toList)) ∧ (insF fl (nm, l) p)[j].2.length ≤ N + 1 ∧ (insF fl (nm, l) p)[j].1.size ≤ 255 := fun i hi e1 e2 => by
        obtain ⟨a1, a2, a3, a4, a5, a6⟩ := h.lc i hi
        rw [e2] at c0 c1 ⊢
        rw [e1]
        rw [pairs_get hi] at c0
        exact ⟨c0, c1, a3.kept (fun k hk' => hwr k _ (a4 k hk') (by simp) (nq k _ (a4 k hk') (by simp))), fun k hk' => hub _ _ (a4 k hk'), Nat.le_trans a5 (by omega), a6⟩
      rcases (show j < p ∨ j = p ∨ p < j by omega) with hj1 | hj1 | hj1
      · obtain ⟨hi, e⟩ := g1 hj1
        exact old j hi e (ins_lt hj1)
      · have e := g2 hj1
        subst hj1
        rw [ins_eq] at c0 c1 ⊢
        rw [e]
        exact ⟨c0, c1, hbr.kept (fun k hk' => hwr k _ (hbl k hk') (by simp) (nq k _ (hbl k hk') (by simp))), fun k hk' => hub _ _ (hbl k hk'), hl, hnm⟩
      · obtain ⟨hi, e⟩ := g3 hj1
        exact old (j - 1) hi e (ins_gt hj1)
    · by_cases ek : k = g
      · subst ek; exact hgz
      · rw [upd_other _ _ ek] at hk'
        exact Nat.lt_of_lt_of_le (h.lt k hk') (by rw [hr.size]; exact ht.size)
    · show (fun x => if x = nm.data.toList then some l else S.fs x) = _
      rw [insF_fs (f := (nm, l)) (fun x hx => by
        obtain ⟨i, hi, rfl⟩ := List.getElem_of_mem hx
        exact hno i hi), h.fs]
    · refine insF_up h.up (fun x hx => ?_) (fun x hx => ?_)
      · obtain ⟨i, hi, rfl⟩ := List.getElem_of_mem hx
        have hi' : i < min p fl.length := by simpa using hi
        rw [List.getElem_take]
        exact h1 i (by omega) (by omega)
      · obtain ⟨i, hi, rfl⟩ := List.getElem_of_mem hx
        have hi' : i < fl.length - p := by simpa using hi
        rw [List.getElem_drop]
        exact h2 (p + i) (by omega) (by omega)
  · subst e
    rcases hgL with e' | e'
    · rw [e']; simp
    · omega
  · by_cases ek : k = g
    · subst ek
      rcases hgL with e' | e'
      · rw [e'] at e; cases e
      · omega
    · rw [upd_other _ _ ek]; exact e

set_option maxHeartbeats 4000000 in
set_option maxRecDepth 100000 in
theorem ylay_raw (w : World) (q : Nat) (L : Nat → Option Lab) (N : Nat) (S : St) (h : PY w q L N S) (hN : N + 1 ≤ 1099511627776) (nm : ByteArray) (ba : Option Addr) (bn bc' : Nat) (l : List UInt8) (hno : S.has nm = false) (hbr : BR w (.slice ba bn bc') l) (hbl : ∀ k, (Value.slice ba bn bc').ownBlock = some k → L k = some (.fl nm.data.toList)) (hl : l.length ≤ N + 1) (hnm : nm.size ≤ 255) :
    Calls Try.prog 31 #[.pointer (some ⟨q, 0, none⟩), .string nm, .slice ba bn bc'] w fun e w' => e = .returned (.tuple #[]) ∧ YLft w q L w' (N + 1) (S.put nm.data.toList l) := by
  obtain ⟨fl, lv, tv, bv, hx⟩ := h
  have hnof : ∀ j (hj : j < fl.length), fl[j].1.data.toList ≠ nm.data.toList := fun j hj e => by
    have hfs : S.fs nm.data.toList = none := by
      unfold St.has at hno
      cases hh : S.fs nm.data.toList with
      | none => rfl
      | some _ => rw [hh] at hno; cases hno
    rw [hx.fs] at hfs
    unfold fsOf at hfs
    rw [Option.map_eq_none_iff, List.find?_eq_none] at hfs
    exact hfs fl[j] (List.getElem_mem _) (by simpa using e)
  obtain ⟨g, cap, wa, hr, c0, f0, hql, hgl, hnc, hcm, hgq, hgL, hrb, hrow, hk, hq, ht⟩ := hx.addFile hN nm ba bn bc'
  obtain ⟨wb, hwb⟩ : ∃ wb, wa.setCell ⟨q, 0, none⟩ (.slice (some ⟨g, 0, none⟩) (fl.length + 1) cap) = wb := ⟨_, rfl⟩
  have hq0 : wb.cell? ⟨q, 0, none⟩ = some (.slice (some ⟨g, 0, none⟩) (fl.length + 1) cap) := by rw [← hwb]; exact World.cell?_setCell_same _ _ _ c0
  have kq0 := hx.c0
  have hqlt := hx.qlt
  rw [hwb] at hrb hrow hk hq ht
  have hlen := hx.len
  obtain ⟨n, hn⟩ : ∃ n, fl.length = n := ⟨_, rfl⟩
  obtain ⟨av, cv, hlv, _⟩ := hx.row.form
  subst hlv
  rw [hn] at kq0 hr c0 hwb hq0 hrow hlen hnc
  have hfrm : ∀ j, j < n → ∃ a2 n2 c2, bv j = .slice a2 n2 c2 := fun j hj => by
    obtain ⟨a2, c2, e, _⟩ := (hx.lc j (by omega)).2.2.1.rw.form
    exact ⟨_, _, _, e⟩
  have hqz : ∀ i, wb.frozen? ⟨q, i, none⟩ = false := fun i => by rw [← hwb, World.frozen?_setCell]; exact f0 i
  have hfin : ∀ p wr, p ≤ n → RowAt wb wr g n (ins (pairs fl bv) (nm, .slice ba bn bc') p) → (∀ j (hj : j < fl.length), p ≤ j → nm.data.toList < fl[j].1.data.toList) → (p = 0 ∨ ∃ m, p = m + 1 ∧ ∀ hm : m < fl.length, ¬ nm.data.toList < fl[m].1.data.toList) → YLft w q L wr (N + 1) (S.put nm.data.toList l) := fun p wr hp hra h2 h1 => by
    refine hx.inserted nm _ l g cap p (by omega) hgq hgL hrb (by rw [hn]; exact hra) hk (by rw [hn]; exact hq0) hq hqz ht hnof (fun j hj hjp => ?_) h2 hbr hbl hl hnm
    rcases h1 with rfl | ⟨m, rfl, hm⟩
    · omega
    · have hm' := hm (by omega)
      have hlt : fl[m].1.data.toList < nm.data.toList := by
        rcases list_tri fl[m].1.data.toList nm.data.toList with e | e | e
        · exact e
        · exact absurd e (hnof m (by omega))
        · exact absurd e hm'
      by_cases hjm : j = m
      · subst hjm; exact hlt
      · have := (List.pairwise_iff_getElem.1 hx.up) j m hj (by omega) (by omega)
        exact List.lt_trans this hlt
  have HF := hid hfin
  have HAPP := hid hr
  have HROW := hid hrow
  have HFRM := hid hfrm
  have hfz0 := f0 0
  have hglb : g < wb.heap.size := by rw [← hwb]; simpa using hgl
  have hqlb : q < wb.heap.size := by rw [← hwb]; simpa using hql
  have hnn : ((n + 1 : Nat) : Int) = (n : Int) + 1 := by omega
  have HFZ : Hid (∀ j, j ≤ n → wb.frozen? ⟨g, j * 2, none⟩ = false ∧ wb.frozen? ⟨g, j * 2 + 1, none⟩ = false) := hid (fun j hj => by
    rcases hrb with ⟨e, _⟩ | ⟨g', cap', e, _, c1, _, c3⟩
    · cases e
    · cases e; exact ⟨(c3 _ (by omega)).2, (c3 _ (by omega)).2⟩)
  have HNA : Hid (∀ j (hj : j < fl.length), (pairs fl bv j).1 = fl[j].1) := hid (fun j hj => pairs_get hj)
  have HL : Hid (fl.length = n) := hid hn
  clear hfin hr hrow hfrm hbr hbl hl hnm hno hnof hgL hrb hk hq ht hx f0 hn hqz
  go_enter Try.func31, Try.ntmps31
  go_wp2_with (at_builtin; refine wpList_app _ rfl _ _ _ _ rfl _ _ rfl rfl _ wa HAPP.out ?_)
  go_loopw [6] (fun i wr => ∃ p : Nat, p ≤ n ∧ i = .int .i64 (p : Int) ∧ Hid (RowAt wb wr g n (ins (pairs fl bv) (nm, .slice ba bn bc') p)) ∧ Hid (∀ j (hj : j < fl.length), p ≤ j → nm.data.toList < fl[j].1.data.toList)) (fun i _ => (intOf i).toNat)
  case atStart => exact ⟨n, Nat.le_refl _, by go_num, HROW, hid (fun j hj h => by have := HL.out; omega)⟩
  case round =>
    obtain ⟨p, hp, rfl, HR, HA⟩ := hrel
    have cq : wr.cell? ⟨q, 0, none⟩ = some (.slice (some ⟨g, 0, none⟩) (n + 1) cap) := (World.cell?_of_block (w := wb) (a := ⟨q, 0, none⟩) (HR.out.oth q (fun e => hgq e.symm))).trans hq0
    have hzr := HR.out.size
    have hqr : q < wr.heap.size := by omega
    have hgr : g < wr.heap.size := by omega
    cases p with
    | zero =>
      have hd : decide ((0 : Int) < ((0 : Nat) : Int)) = false := rfl
      go_wp2_with fail
      go_quiet (fail)
      go_wp2_with fail
      go_end0
      exact ⟨rfl, HF.out 0 _ (by omega) (HR.out.drewN _) HA.out (.inl rfl)⟩
    | succ m =>
      obtain ⟨x0, x1⟩ := HR.out.c (m + 1) hp
      obtain ⟨y0, y1⟩ := HR.out.c m (by omega)
      rw [ins_eq] at x0 x1
      rw [ins_lt (by omega)] at y0 y1
      obtain ⟨a2, n2, c2, hb2⟩ := HFRM.out m (by omega)
      have e2 : (pairs fl bv m).2 = .slice a2 n2 c2 := hb2
      have hml : m < fl.length := by have := HL.out; omega
      have e3 := HNA.out m hml
      have HSW : Hid (RowAt wb ((((wr.setCell ⟨g, (m + 1) * 2, none⟩ (.string (pairs fl bv m).1)).setCell ⟨g, (m + 1) * 2 + 1, none⟩ (.slice a2 n2 c2)).setCell ⟨g, m * 2, none⟩ (.string nm)).setCell ⟨g, m * 2 + 1, none⟩ (.slice ba bn bc')) g n (ins (pairs fl bv) (nm, .slice ba bn bc') m)) := hid (by have := HR.out.swap hp; rw [e2] at this; exact this)
      rw [e2] at y1
      obtain ⟨om, hom⟩ : ∃ om, (pairs fl bv m).1 = om := ⟨_, rfl⟩
      rw [hom] at y0 HSW e3
      have z0 : wr.frozen? ⟨g, (m + 1) * 2, none⟩ = false := (HR.out.fz _).trans (HFZ.out (m + 1) hp).1
      have z1 : wr.frozen? ⟨g, (m + 1) * 2 + 1, none⟩ = false := (HR.out.fz _).trans (HFZ.out (m + 1) hp).2
      have z2 : wr.frozen? ⟨g, m * 2, none⟩ = false := (HR.out.fz _).trans (HFZ.out m (by omega)).1
      have z3 : wr.frozen? ⟨g, m * 2 + 1, none⟩ = false := (HR.out.fz _).trans (HFZ.out m (by omega)).2
      have hpos : (0 : Int) < ((m + 1 : Nat) : Int) := by omega
      have hi1 : ((m + 1 : Nat) : Int) < ((n + 1 : Nat) : Int) := by omega
      have hi2 : ((m : Nat) : Int) < ((n + 1 : Nat) : Int) := by omega
      have hbl := bless nm.toList om.toList
      rw [Lib.toList_data, Lib.toList_data] at hbl
      have E3 := hid e3
      have E2 := hid e2
      have HOM := hid hom
      clear hb2 e2 hom e3
      by_cases hlt : nm.data.toList < om.data.toList
      · have hd : Op.bytesLess nm.toList om.toList = true := by rw [Lib.toList_data, Lib.toList_data, hbl]; simpa using hlt
        have HA' : Hid (∀ j (hj : j < fl.length), m ≤ j → nm.data.toList < fl[j].1.data.toList) := hid (fun j hj h => by
          rcases Nat.eq_or_lt_of_le h with e | e
          · subst e; rw [← E3.out]; exact hlt
          · exact HA.out j hj e)
        clear hbl hlt
        go_wp2_with fail
        go_quiet (fail)
        go_wp2_with fail
        obtain ⟨w5, h5⟩ : ∃ w5, wr.drewN nq = w5 := ⟨_, rfl⟩
        rw [h5]
        have R5 : RowAt wb w5 g n (ins (pairs fl bv) (nm, .slice ba bn bc') (m + 1)) := h5 ▸ HR.out.drewN nq
        have cq5 : w5.cell? ⟨q, 0, none⟩ = some (.slice (some ⟨g, 0, none⟩) (n + 1) cap) := h5 ▸ cq
        have x05 : w5.cell? ⟨g, (m + 1) * 2, none⟩ = some (.string nm) := h5 ▸ x0
        have x15 : w5.cell? ⟨g, (m + 1) * 2 + 1, none⟩ = some (.slice ba bn bc') := h5 ▸ x1
        have y05 : w5.cell? ⟨g, m * 2, none⟩ = some (.string om) := h5 ▸ y0
        have y15 : w5.cell? ⟨g, m * 2 + 1, none⟩ = some (.slice a2 n2 c2) := h5 ▸ y1
        have z05 : w5.frozen? ⟨g, (m + 1) * 2, none⟩ = false := h5 ▸ z0
        have z15 : w5.frozen? ⟨g, (m + 1) * 2 + 1, none⟩ = false := h5 ▸ z1
        have z25 : w5.frozen? ⟨g, m * 2, none⟩ = false := h5 ▸ z2
        have z35 : w5.frozen? ⟨g, m * 2 + 1, none⟩ = false := h5 ▸ z3
        have hg5 : g < w5.heap.size := by have := R5.size; omega
        have hq5 : q < w5.heap.size := by have := R5.size; omega
        have HSW5 : Hid (RowAt wb ((((w5.setCell ⟨g, (m + 1) * 2, none⟩ (.string om)).setCell ⟨g, (m + 1) * 2 + 1, none⟩ (.slice a2 n2 c2)).setCell ⟨g, m * 2, none⟩ (.string nm)).setCell ⟨g, m * 2 + 1, none⟩ (.slice ba bn bc')) g n (ins (pairs fl bv) (nm, .slice ba bn bc') m)) := hid (by have := R5.swap hp; rw [E2.out, HOM.out] at this; exact this)
        clear h5 R5 cq x0 x1 y0 y1 z0 z1 z2 z3 HSW HR hgr hqr hzr hd
        go_region
        all_goals go_wp2_with fail
        exact ⟨⟨m, by omega, rfl, hid HSW5.out.drew, HA'⟩, by simp [intOf]⟩
      · have hd : Op.bytesLess nm.toList om.toList = false := by rw [Lib.toList_data, Lib.toList_data, hbl]; simpa using hlt
        have HLT : Hid (¬ nm.data.toList < fl[m].1.data.toList) := hid (by rw [← E3.out]; exact hlt)
        clear hbl hlt
        go_wp2_with fail
        go_quiet (fail)
        go_wp2_with fail
        go_end0
        exact ⟨rfl, HF.out (m + 1) _ hp (HR.out.drewN _) HA.out (.inr ⟨m, rfl, fun _ => HLT.out⟩)⟩
end Go.Proofs.Ytkbdgdcicflocaa
