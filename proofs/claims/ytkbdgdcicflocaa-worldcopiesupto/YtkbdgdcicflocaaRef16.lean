/-
  The reference's lay.
-/
import Derived.Test.YtkbdgdcicflocaaRefE
import Derived.Lib.Strings
namespace Go.Proofs.Ytkbdgdcicflocaa
set_option linter.unusedSimpArgs false
set_option linter.unusedVariables false
open Go.RowKit
attribute [local go_sem ↓] Go.wp_at_zero Go.wp_at_succ

theorem ins_lt {E : Nat → ByteArray × Value} {x : ByteArray × Value} {p j : Nat} (h : j < p) : ins E x p j = E j := by unfold ins; rw [if_pos h]
theorem ins_eq {E : Nat → ByteArray × Value} {x : ByteArray × Value} {p : Nat} : ins E x p p = x := by unfold ins; rw [if_neg (by omega), if_pos rfl]
theorem ins_gt {E : Nat → ByteArray × Value} {x : ByteArray × Value} {p j : Nat} (h : p < j) : ins E x p j = E (j - 1) := by unfold ins; rw [if_neg (by omega), if_neg (by omega)]

theorem RX.inserted {w wb wr : World} {q : Nat} {L : Nat → Option Lab} {N : Nat} {S : St} {fl : List (ByteArray × List UInt8)} {d : Dk} {lv tv : Value} {bv : Nat → Value} (h : RX w q L N S fl d lv tv bv) (nm : ByteArray) (b : Value) (l : List UInt8) (g cap p : Nat) (hp : p ≤ fl.length)
    (hgq : g ≠ q) (hgd : g ≠ d) (hgL : L g = some .mp ∨ (L g = none ∧ w.heap.size ≤ g)) (hrb : RW wb 2 (.slice (some ⟨g, 0, none⟩) (fl.length + 1) cap) (fl.length + 1)) (hr : RowAt wb wr g fl.length (ins (pairs fl bv) (nm, b) p))
    (hk : ∀ k, L k ≠ none → L k ≠ some .mp → k ≠ q → wb.heap[k]? = w.heap[k]?) (hq0 : wb.cell? ⟨q, 0, none⟩ = some (.slice (some ⟨g, 0, none⟩) (fl.length + 1) cap)) (hq : ∀ i, i ≠ 0 → wb.cell? ⟨q, i, none⟩ = w.cell? ⟨q, i, none⟩) (hqz : ∀ i, wb.frozen? ⟨q, i, none⟩ = false) (ht : Tn (fun k => L k ≠ none) w wb)
    (hno : ∀ j (hj : j < fl.length), fl[j].1.data.toList ≠ nm.data.toList) (h1 : ∀ j (hj : j < fl.length), j < p → fl[j].1.data.toList < nm.data.toList) (h2 : ∀ j (hj : j < fl.length), p ≤ j → nm.data.toList < fl[j].1.data.toList)
    (hbr : BR w b l) (hbl : ∀ k, b.ownBlock = some k → L k = some (.fl nm.data.toList)) (hl : l.length ≤ N + 1) (hnm : nm.size ≤ 255) : RLft w q L wr (N + 1) (S.put nm.data.toList l) := by
  have hub : ∀ k x, L k = some x → upd L g (some .mp) k = some x := fun k x e => by
    by_cases ek : k = g
    · subst ek
      rw [upd_same]
      rcases hgL with e' | e'
      · rw [e'] at e; exact e
      · rw [e'.1] at e; cases e
    · rw [upd_other _ _ ek]; exact e
  have hgz : g < wr.heap.size := by rw [hr.size]; exact hrb.lt g rfl
  have hwr : ∀ k x, L k = some x → x ≠ .mp → k ≠ q → wr.heap[k]? = w.heap[k]? := fun k x e1 e2 e3 => by
    have hkg : k ≠ g := by
      rintro rfl
      rcases hgL with e' | e'
      · rw [e1] at e'; cases e'; exact e2 rfl
      · rw [e'.1] at e1; cases e1
    rw [hr.oth k hkg]
    exact hk k (by rw [e1]; simp) (by rw [e1]; intro e; cases e; exact e2 rfl) e3
  have hwq : wr.heap[q]? = wb.heap[q]? := hr.oth q (fun e => hgq e.symm)
  have cq : ∀ i, wr.cell? ⟨q, i, none⟩ = wb.cell? ⟨q, i, none⟩ := fun i => World.cell?_of_block (w := wb) (a := ⟨q, i, none⟩) hwq
  have nq : ∀ k x, L k = some x → x ≠ .st → k ≠ q := fun k x e1 e2 e3 => by rw [e3, h.labs] at e1; cases e1; exact e2 rfl
  have hd := hwr d _ h.labd (by simp) (nq d _ h.labd (by simp))
  have cd : ∀ i, wr.cell? ⟨d, i, none⟩ = w.cell? ⟨d, i, none⟩ := fun i => World.cell?_of_block (w := w) (a := ⟨d, i, none⟩) hd
  have hlen := insF_length fl (nm, l) p hp
  have hrw : RW wr 2 (.slice (some ⟨g, 0, none⟩) (fl.length + 1) cap) (fl.length + 1) := by
    rcases hrb with ⟨e, _⟩ | ⟨g', cap', e, hg, c1, c2, c3⟩
    · cases e
    · cases e
      exact .inr ⟨g, cap, rfl, hgz, c1, c2, fun j hj => ⟨hr.some' j (c3 j hj).1, (hr.fz j).trans (c3 j hj).2⟩⟩
  refine ⟨upd L g (some .mp), ⟨insF fl (nm, l) p, d, .slice (some ⟨g, 0, none⟩) (fl.length + 1) cap, tv, fun j => (ins (pairs fl bv) (nm, b) p j).2, ?_⟩, ht.trans hr.tn (fun _ _ e => e) (fun i hi e => ?_), fun k hk' e => ?_⟩
  · refine { qlt := Nat.lt_of_lt_of_le h.qlt (by rw [hr.size]; exact ht.size), c0 := (cq 0).trans hq0, c1 := ((cq 1).trans (hq 1 (by omega))).trans h.c1, c2 := ((cq 2).trans (hq 2 (by omega))).trans h.c2, c3 := ((cq 3).trans (hq 3 (by omega))).trans h.c3, fz := fun j => ?_, labs := hub _ _ h.labs, labd := hub _ _ h.labd, dc := fun j hj => ?_, dz := fun j => ?_, pl := fun j hj => ⟨Nat.le_trans (h.pl j hj).1 (by omega), (h.pl j hj).2⟩, tr := h.tr.kept (fun k hk' => hwr k _ (h.labt k hk') (by simp) (nq k _ (h.labt k hk') (by simp))), labt := fun k hk' => hub _ _ (h.labt k hk'), tlen := ⟨Nat.le_trans h.tlen.1 (by omega), fun e he => Nat.le_trans (h.tlen.2 e he) (by omega)⟩, row := by rw [hlen]; exact hrw, labl := fun k e => (by cases e; exact upd_same _ _ _), lc := fun j hj => ?_, len := by rw [hlen]; have := h.len; omega, lt := fun k hk' => ?_, fs := ?_, up := ?_, rd := h.rd }
    · have := hqz j
      simp only [World.frozen?, hwq] at this ⊢
      exact this
    · obtain ⟨a, b, c⟩ := h.dc j hj
      exact ⟨(cd _).trans a, (cd _).trans b, (cd _).trans c⟩
    · have := h.dz j
      simp only [World.frozen?, hd] at this ⊢
      exact this
    · obtain ⟨g1, g2, g3⟩ := insF_get fl (nm, l) p hp j hj
      have hjn : j ≤ fl.length := by omega
      obtain ⟨c0, c1⟩ := hr.c j hjn
      rw [Nat.mul_comm j 2] at c0 c1
      have old : ∀ i (hi : i < fl.length), (insF fl (nm, l) p)[j] = fl[i] → ins (pairs fl bv) (nm, b) p j = pairs fl bv i →
          vc wr (.slice (some ⟨g, 0, none⟩) (fl.length + 1) cap) (2 * j) = some (.string (insF fl (nm, l) p)[j].1) ∧ vc wr (.slice (some ⟨g, 0, none⟩) (fl.length + 1) cap) (2 * j + 1) = some (ins (pairs fl bv) (nm, b) p j).2 ∧ BR wr (ins (pairs fl bv) (nm, b) p j).2 (insF fl (nm, l) p)[j].2 ∧ (∀ g', (ins (pairs fl bv) (nm, b) p j).2.ownBlock = some g' → upd L g (some .mp) g' = some (.fl (insF fl (nm, l) p)[j].1.data.toList)) ∧ (insF fl (nm, l) p)[j].2.length ≤ N + 1 ∧ (insF fl (nm, l) p)[j].1.size ≤ 255 := fun i hi e1 e2 => by
        obtain ⟨a1, a2, a3, a4, a5, a6⟩ := h.lc i hi
        rw [e2] at c0 c1 ⊢
        rw [e1]
        rw [pairs_get hi] at c0
        exact ⟨c0, c1, a3.kept (fun k hk' => hwr k _ (a4 k hk') (by simp) (nq k _ (a4 k hk') (by simp))), fun k hk' => hub _ _ (a4 k hk'), Nat.le_trans a5 (by omega), a6⟩
      rcases (show j < p ∨ j = p ∨ p < j by omega) with hj1 | hj1 | hj1
      · obtain ⟨hi, e⟩ := g1 hj1
        exact old j hi e (ins_lt hj1)
      · have e := g2 hj1
        subst hj1
        rw [ins_eq] at c0 c1 ⊢
        rw [e]
        exact ⟨c0, c1, hbr.kept (fun k hk' => hwr k _ (hbl k hk') (by simp) (nq k _ (hbl k hk') (by simp))), fun k hk' => hub _ _ (hbl k hk'), hl, hnm⟩
      · obtain ⟨hi, e⟩ := g3 hj1
        exact old (j - 1) hi e (ins_gt hj1)
    · by_cases ek : k = g
      · subst ek; exact hgz
      · rw [upd_other _ _ ek] at hk'
        exact Nat.lt_of_lt_of_le (h.lt k hk') (by rw [hr.size]; exact ht.size)
    · show (fun x => if x = nm.data.toList then some l else S.fs x) = _
      rw [insF_fs (f := (nm, l)) (fun x hx => by
        obtain ⟨i, hi, rfl⟩ := List.getElem_of_mem hx
        exact hno i hi), h.fs]
    · refine insF_up h.up (fun x hx => ?_) (fun x hx => ?_)
      · obtain ⟨i, hi, rfl⟩ := List.getElem_of_mem hx
        have hi' : i < min p fl.length := by simpa using hi
        rw [List.getElem_take]
        exact h1 i (by omega) (by omega)
      · obtain ⟨i, hi, rfl⟩ := List.getElem_of_mem hx
        have hi' : i < fl.length - p := by simpa using hi
        rw [List.getElem_drop]
        exact h2 (p + i) (by omega) (by omega)
  · subst e
    rcases hgL with e' | e'
    · rw [e']; simp
    · omega
  · by_cases ek : k = g
    · subst ek
      rcases hgL with e' | e'
      · rw [e'] at e; cases e
      · omega
    · rw [upd_other _ _ ek]; exact e

set_option maxHeartbeats 4000000 in
set_option maxRecDepth 100000 in
theorem rlay_raw (w : World) (q : Nat) (L : Nat → Option Lab) (N : Nat) (S : St) (h : PR w q L N S) (hN : N + 1 ≤ 1099511627776) (nm : ByteArray) (ba : Option Addr) (bn bc' : Nat) (l : List UInt8) (hno : S.has nm = false) (hbr : BR w (.slice ba bn bc') l) (hbl : ∀ k, (Value.slice ba bn bc').ownBlock = some k → L k = some (.fl nm.data.toList)) (hl : l.length ≤ N + 1) (hnm : nm.size ≤ 255) :
    Calls Try.prog 31 #[.pointer (some ⟨q, 0, none⟩), .string nm, .slice ba bn bc'] w fun e w' => e = .returned (.tuple #[]) ∧ RLft w q L w' (N + 1) (S.put nm.data.toList l) := by
  obtain ⟨fl, d, lv, tv, bv, hx⟩ := h
  have hnof : ∀ j (hj : j < fl.length), fl[j].1.data.toList ≠ nm.data.toList := fun j hj e => by
    have hfs : S.fs nm.data.toList = none := by
      unfold St.has at hno
      cases hh : S.fs nm.data.toList with
      | none => rfl
      | some _ => rw [hh] at hno; cases hno
    rw [hx.fs] at hfs
    unfold fsOf at hfs
    rw [Option.map_eq_none_iff, List.find?_eq_none] at hfs
    exact hfs fl[j] (List.getElem_mem _) (by simpa using e)
  obtain ⟨g, cap, wa, hr, c0, f0, hql, hgl, hnc, hcm, hgq, hgd, hgL, hrb, hrow, hk, hq, ht⟩ := hx.addFile hN nm ba bn bc'
  obtain ⟨wb, hwb⟩ : ∃ wb, wa.setCell ⟨q, 0, none⟩ (.slice (some ⟨g, 0, none⟩) (fl.length + 1) cap) = wb := ⟨_, rfl⟩
  have hq0 : wb.cell? ⟨q, 0, none⟩ = some (.slice (some ⟨g, 0, none⟩) (fl.length + 1) cap) := by rw [← hwb]; exact World.cell?_setCell_same _ _ _ c0
  have kq0 := hx.c0
  have hqlt := hx.qlt
  rw [hwb] at hrb hrow hk hq ht
  have hlen := hx.len
  obtain ⟨n, hn⟩ : ∃ n, fl.length = n := ⟨_, rfl⟩
  obtain ⟨av, cv, hlv, _⟩ := hx.row.form
  subst hlv
  rw [hn] at kq0 hr c0 hwb hq0 hrow hlen hnc
  have hfrm : ∀ j, j < n → ∃ a2 n2 c2, bv j = .slice a2 n2 c2 := fun j hj => by
    obtain ⟨a2, c2, e, _⟩ := (hx.lc j (by omega)).2.2.1.rw.form
    exact ⟨_, _, _, e⟩
  have hqz : ∀ i, wb.frozen? ⟨q, i, none⟩ = false := fun i => by rw [← hwb, World.frozen?_setCell]; exact f0 i
  have hfin : ∀ p wr, p ≤ n → RowAt wb wr g n (ins (pairs fl bv) (nm, .slice ba bn bc') p) → (∀ j (hj : j < fl.length), p ≤ j → nm.data.toList < fl[j].1.data.toList) → (p = 0 ∨ ∃ m, p = m + 1 ∧ ∀ hm : m < fl.length, ¬ nm.data.toList < fl[m].1.data.toList) → RLft w q L wr (N + 1) (S.put nm.data.toList l) := fun p wr hp hra h2 h1 => by
    refine hx.inserted nm _ l g cap p (by omega) hgq hgd hgL hrb (by rw [hn]; exact hra) hk (by rw [hn]; exact hq0) hq hqz ht hnof (fun j hj hjp => ?_) h2 hbr hbl hl hnm
    rcases h1 with rfl | ⟨m, rfl, hm⟩
    · omega
    · have hm' := hm (by omega)
      have hlt : fl[m].1.data.toList < nm.data.toList := by
        rcases list_tri fl[m].1.data.toList nm.data.toList with e | e | e
        · exact e
        · exact absurd e (hnof m (by omega))
        · exact absurd e hm'
      by_cases hjm : j = m
      · subst hjm; exact hlt
      · have := (List.pairwise_iff_getElem.1 hx.up) j m hj (by omega) (by omega)
        exact List.lt_trans this hlt
  have HF := hid hfin
  have HAPP := hid hr
  have HROW := hid hrow
  have HFRM := hid hfrm
  have hfz0 := f0 0
  have hglb : g < wb.heap.size := by rw [← hwb]; simpa using hgl
  have hqlb : q < wb.heap.size := by rw [← hwb]; simpa using hql
  have hnn : ((n + 1 : Nat) : Int) = (n : Int) + 1 := by omega
  have HFZ : Hid (∀ j, j ≤ n → wb.frozen? ⟨g, j * 2, none⟩ = false ∧ wb.frozen? ⟨g, j * 2 + 1, none⟩ = false) := hid (fun j hj => by
    rcases hrb with ⟨e, _⟩ | ⟨g', cap', e, _, c1, _, c3⟩
    · cases e
    · cases e; exact ⟨(c3 _ (by omega)).2, (c3 _ (by omega)).2⟩)
  have HNA : Hid (∀ j (hj : j < fl.length), (pairs fl bv j).1 = fl[j].1) := hid (fun j hj => pairs_get hj)
  have HL : Hid (fl.length = n) := hid hn
  clear hfin hr hrow hfrm hbr hbl hl hnm hno hnof hgL hrb hk hq ht hx f0 hn hqz
  go_enter Try.func31, Try.ntmps31
  go_wp2_with (at_builtin; refine wpList_app _ rfl _ _ _ _ rfl _ _ rfl rfl _ wa HAPP.out ?_)
  go_loopw [6] (fun i wr => ∃ p : Nat, p ≤ n ∧ i = .int .i64 (p : Int) ∧ Hid (RowAt wb wr g n (ins (pairs fl bv) (nm, .slice ba bn bc') p)) ∧ Hid (∀ j (hj : j < fl.length), p ≤ j → nm.data.toList < fl[j].1.data.toList)) (fun i _ => (intOf i).toNat)
  case atStart => exact ⟨n, Nat.le_refl _, by go_num, HROW, hid (fun j hj h => by have := HL.out; omega)⟩
  case round =>
    obtain ⟨p, hp, rfl, HR, HA⟩ := hrel
    have cq : wr.cell? ⟨q, 0, none⟩ = some (.slice (some ⟨g, 0, none⟩) (n + 1) cap) := (World.cell?_of_block (w := wb) (a := ⟨q, 0, none⟩) (HR.out.oth q (fun e => hgq e.symm))).trans hq0
    have hzr := HR.out.size
    have hqr : q < wr.heap.size := by omega
    have hgr : g < wr.heap.size := by omega
    cases p with
    | zero =>
      have hd : decide ((0 : Int) < ((0 : Nat) : Int)) = false := rfl
      go_wp2_with fail
      go_quiet (fail)
      go_wp2_with fail
      go_end0
      exact ⟨rfl, HF.out 0 _ (by omega) (HR.out.drewN _) HA.out (.inl rfl)⟩
    | succ m =>
      obtain ⟨x0, x1⟩ := HR.out.c (m + 1) hp
      obtain ⟨y0, y1⟩ := HR.out.c m (by omega)
      rw [ins_eq] at x0 x1
      rw [ins_lt (by omega)] at y0 y1
      obtain ⟨a2, n2, c2, hb2⟩ := HFRM.out m (by omega)
      have e2 : (pairs fl bv m).2 = .slice a2 n2 c2 := hb2
      have hml : m < fl.length := by have := HL.out; omega
      have e3 := HNA.out m hml
      have HSW : Hid (RowAt wb ((((wr.setCell ⟨g, (m + 1) * 2, none⟩ (.string (pairs fl bv m).1)).setCell ⟨g, (m + 1) * 2 + 1, none⟩ (.slice a2 n2 c2)).setCell ⟨g, m * 2, none⟩ (.string nm)).setCell ⟨g, m * 2 + 1, none⟩ (.slice ba bn bc')) g n (ins (pairs fl bv) (nm, .slice ba bn bc') m)) := hid (by have := HR.out.swap hp; rw [e2] at this; exact this)
      rw [e2] at y1
      obtain ⟨om, hom⟩ : ∃ om, (pairs fl bv m).1 = om := ⟨_, rfl⟩
      rw [hom] at y0 HSW e3
      have z0 : wr.frozen? ⟨g, (m + 1) * 2, none⟩ = false := (HR.out.fz _).trans (HFZ.out (m + 1) hp).1
      have z1 : wr.frozen? ⟨g, (m + 1) * 2 + 1, none⟩ = false := (HR.out.fz _).trans (HFZ.out (m + 1) hp).2
      have z2 : wr.frozen? ⟨g, m * 2, none⟩ = false := (HR.out.fz _).trans (HFZ.out m (by omega)).1
      have z3 : wr.frozen? ⟨g, m * 2 + 1, none⟩ = false := (HR.out.fz _).trans (HFZ.out m (by omega)).2
      have hpos : (0 : Int) < ((m + 1 : Nat) : Int) := by omega
      have hi1 : ((m + 1 : Nat) : Int) < ((n + 1 : Nat) : Int) := by omega
      have hi2 : ((m : Nat) : Int) < ((n + 1 : Nat) : Int) := by omega
      have hbl := bless nm.toList om.toList
      rw [Lib.toList_data, Lib.toList_data] at hbl
      have E3 := hid e3
      have E2 := hid e2
      have HOM := hid hom
      clear hb2 e2 hom e3
      by_cases hlt : nm.data.toList < om.data.toList
      · have hd : Op.bytesLess nm.toList om.toList = true := by rw [Lib.toList_data, Lib.toList_data, hbl]; simpa using hlt
        have HA' : Hid (∀ j (hj : j < fl.length), m ≤ j → nm.data.toList < fl[j].1.data.toList) := hid (fun j hj h => by
          rcases Nat.eq_or_lt_of_le h with e | e
          · subst e; rw [← E3.out]; exact hlt
          · exact HA.out j hj e)
        clear hbl hlt
        go_wp2_with fail
        go_quiet (fail)
        go_wp2_with fail
        obtain ⟨w5, h5⟩ : ∃ w5, wr.drewN nq = w5 := ⟨_, rfl⟩
        rw [h5]
        have R5 : RowAt wb w5 g n (ins (pairs fl bv) (nm, .slice ba bn bc') (m + 1)) := h5 ▸ HR.out.drewN nq
        have cq5 : w5.cell? ⟨q, 0, none⟩ = some (.slice (some ⟨g, 0, none⟩) (n + 1) cap) := h5 ▸ cq
        have x05 : w5.cell? ⟨g, (m + 1) * 2, none⟩ = some (.string nm) := h5 ▸ x0
        have x15 : w5.cell? ⟨g, (m + 1) * 2 + 1, none⟩ = some (.slice ba bn bc') := h5 ▸ x1
        have y05 : w5.cell? ⟨g, m * 2, none⟩ = some (.string om) := h5 ▸ y0
        have y15 : w5.cell? ⟨g, m * 2 + 1, none⟩ = some (.slice a2 n2 c2) := h5 ▸ y1
        have z05 : w5.frozen? ⟨g, (m + 1) * 2, none⟩ = false := h5 ▸ z0
        have z15 : w5.frozen? ⟨g, (m + 1) * 2 + 1, none⟩ = false := h5 ▸ z1
        have z25 : w5.frozen? ⟨g, m * 2, none⟩ = false := h5 ▸ z2
        have z35 : w5.frozen? ⟨g, m * 2 + 1, none⟩ = false := h5 ▸ z3
        have hg5 : g < w5.heap.size := by have := R5.size; omega
        have hq5 : q < w5.heap.size := by have := R5.size; omega
        have HSW5 : Hid (RowAt wb ((((w5.setCell ⟨g, (m + 1) * 2, none⟩ (.string om)).setCell ⟨g, (m + 1) * 2 + 1, none⟩ (.slice a2 n2 c2)).setCell ⟨g, m * 2, none⟩ (.string nm)).setCell ⟨g, m * 2 + 1, none⟩ (.slice ba bn bc')) g n (ins (pairs fl bv) (nm, .slice ba bn bc') m)) := hid (by have := R5.swap hp; rw [E2.out, HOM.out] at this; exact this)
        clear h5 R5 cq x0 x1 y0 y1 z0 z1 z2 z3 HSW HR hgr hqr hzr hd
        go_region
        all_goals go_wp2_with fail
        exact ⟨⟨m, by omega, rfl, hid HSW5.out.drew, HA'⟩, by simp [intOf]⟩
      · have hd : Op.bytesLess nm.toList om.toList = false := by rw [Lib.toList_data, Lib.toList_data, hbl]; simpa using hlt
        have HLT : Hid (¬ nm.data.toList < fl[m].1.data.toList) := hid (by rw [← E3.out]; exact hlt)
        clear hbl hlt
        go_wp2_with fail
        go_quiet (fail)
        go_wp2_with fail
        go_end0
        exact ⟨rfl, HF.out (m + 1) _ hp (HR.out.drewN _) HA.out (.inr ⟨m, rfl, fun _ => HLT.out⟩)⟩
end Go.Proofs.Ytkbdgdcicflocaa
