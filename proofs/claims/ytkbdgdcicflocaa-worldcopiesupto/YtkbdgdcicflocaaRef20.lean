/-
  The reference's SysWrite into a file: a byte more, a byte written.
-/
import Derived.Test.YtkbdgdcicflocaaRefD
namespace Go.Proofs.Ytkbdgdcicflocaa
set_option linter.unusedSimpArgs false
set_option linter.unusedVariables false
open Go.RowKit
attribute [local go_sem ↓] Go.wp_at_zero Go.wp_at_succ

variable {w wr : World} {q : Nat} {L : Nat → Option Lab} {N : Nat} {S : St} {fl : List (ByteArray × List UInt8)} {d : Dk} {g nl cap : Nat} {tv : Value} {fd i : Nat} {nm : ByteArray} {l : List UInt8} {pl : Nat}

/-- the labels of the row and of file i's bytes -/
theorem RI.labs {L2 : Nat → Option Lab} {bv2 : Nat → Value} (hx : RX wr q L2 N (WS S fd nm l pl) (fl.set i (nm, l)) d (.slice (some ⟨g, 0, none⟩) nl cap) tv bv2) (hi : i < fl.length) {ab : Option Addr} {cb : Nat} (hc : wr.cell? ⟨g, i * 2 + 1, none⟩ = some (.slice ab l.length cb)) :
    L2 g = some .mp ∧ ∀ k, (Value.slice ab l.length cb).ownBlock = some k → L2 k = some (.fl nm.data.toList) := by
  obtain ⟨hi', hget⟩ := set_same_get (nm := nm) (l := l) hi
  obtain ⟨_, b1, _, b4, _⟩ := hx.lc i hi'
  rw [hget] at b4
  have e : bv2 i = .slice ab l.length cb := by
    have h1 : wr.cell? ⟨g, 2 * i + 1, none⟩ = some (bv2 i) := b1
    rw [show 2 * i + 1 = i * 2 + 1 by omega, hc] at h1
    exact (Option.some.inj h1).symm
  rw [e] at b4
  exact ⟨hx.labl g rfl, b4⟩

/-- a 0 goes behind the file's bytes -/
theorem RI.pad (h : RI w wr q L N S fl d (.slice (some ⟨g, 0, none⟩) nl cap) tv fd i nm l pl) (hi : i < fl.length) (hn : fl.length = nl) (hfd : fd < 19) (hN : N ≤ 1099511627776) (hl : l.length + 1 ≤ N) (ab : Option Addr) (cb : Nat) (hc : wr.cell? ⟨g, i * 2 + 1, none⟩ = some (.slice ab l.length cb)) (b : Nat) (hb : wr.cell? ⟨b, 0, none⟩ = some (.int .u8 0)) :
    ∃ a' c' wa, (Builtin.append_ #[64, 64] 64 #[.slice ab l.length cb, .slice (some ⟨b, 0, none⟩) 1 1]).run Try.prog wr = .ok (.slice a' (l.length + 1) c') wa ∧ wa.cell? ⟨q, 0, none⟩ = some (.slice (some ⟨g, 0, none⟩) nl cap) ∧ wa.cell? ⟨g, i * 2 + 1, none⟩ = some (.slice ab l.length cb) ∧ wa.frozen? ⟨g, i * 2 + 1, none⟩ = false ∧ q < wa.heap.size ∧ g < wa.heap.size ∧
      RI w (wa.setCell ⟨g, i * 2 + 1, none⟩ (.slice a' (l.length + 1) c')) q L N S fl d (.slice (some ⟨g, 0, none⟩) nl cap) tv fd i nm (l ++ [0]) pl := by
  obtain ⟨c0, _, _, _, _, ⟨ab', cb', hc', hbr, _, _⟩, hfz, hq, hd, hg, hgq, hgd, hqd⟩ := h.facts hi hn hfd
  obtain ⟨rfl, rfl⟩ : ab' = ab ∧ cb' = cb := by
    rw [hc] at hc'
    simp only [Option.some.injEq, Value.slice.injEq] at hc'
    exact ⟨hc'.1.symm, hc'.2.2.symm⟩
  have hsrc : Src Try.prog 1 64 (.slice (some ⟨b, 0, none⟩) 1 1) ([0] : List UInt8).length (bc [0]) wr := by
    refine Src.ofSlice _ Try.underlying64 _ 1 1 _ (by simp [bc]) (fun j u hu => ?_) (bc_one _)
    have hj : j = 0 ∧ u = .int .u8 0 := by
      simp only [bc, List.map_cons, List.map_nil] at hu
      cases j with
      | zero => simp at hu; exact ⟨rfl, hu.symm⟩
      | succ j => simp at hu
    obtain ⟨rfl, rfl⟩ := hj
    rw [addr_add]; exact hb
  obtain ⟨va, wa, hr, hbra, hgr, hown⟩ := br_append 64 hbr hsrc (by simp; omega)
  obtain ⟨a', c', hva, _⟩ := hbra.rw.form
  have hla : (l ++ [0]).length = l.length + 1 := by simp
  rw [hla] at hva
  subst hva
  have hx0 := h
  obtain ⟨L2, bv2, hx, _, _⟩ := hx0
  obtain ⟨lg, lb⟩ := RI.labs hx hi hc
  have hog : (Value.slice ab' l.length cb').ownBlock ≠ some g := fun e => by have := lb g e; rw [lg] at this; cases this
  have hoq : (Value.slice ab' l.length cb').ownBlock ≠ some q := fun e => by have := lb q e; rw [hx.labs] at this; cases this
  have hag : wa.heap[g]? = wr.heap[g]? := hgr.block g hg (fun e => hog e.symm)
  have haq : wa.heap[q]? = wr.heap[q]? := hgr.block q hq (fun e => hoq e.symm)
  have hgz := hgr.size
  have cg : ∀ j, wa.cell? ⟨g, j, none⟩ = wr.cell? ⟨g, j, none⟩ := fun j => World.cell?_of_block (w := wr) (a := ⟨g, j, none⟩) hag
  have fg : wa.frozen? ⟨g, i * 2 + 1, none⟩ = false := by
    simp only [World.frozen?, hag] at hfz ⊢
    exact hfz
  have hrow : RW wr 2 (.slice (some ⟨g, 0, none⟩) nl cap) nl := by have := hx.row; rw [List.length_set, hn] at this; exact this
  have hva2 : ∀ k, (Value.slice a' (l.length + 1) c').ownBlock = some k → k ≠ g := fun k hk e => by
    subst e
    rcases hown with e | e
    · exact hog (by rw [← e]; exact hk)
    · rw [e] at hk; cases hk; omega
  refine ⟨a', c', wa, hr, (World.cell?_of_block (w := wr) (a := ⟨q, 0, none⟩) haq).trans c0, (cg _).trans hc, fg, by omega, by omega, ?_⟩
  refine h.turn hi hn (.slice a' (l.length + 1) c') (l ++ [0]) (by simpa using hgz) (fun k => (Value.slice ab' l.length cb').ownBlock = some k ∨ k = g) (fun L3 bv3 hx3 k hk _ => ?_) ?_ ((hrow.kept (fun k e => by cases e; exact hag)).set _ _) (fun j hj => ?_) (hbra.kept (fun k hk => Below.heap_setCell _ _ _ _ (hva2 k hk))) (fun L3 bv3 hx3 k hk => ?_) (by rw [hla]; exact hl)
  · obtain ⟨x1, x2⟩ := RI.labs hx3 hi hc
    rcases hk with hk | rfl
    · exact .inl (x2 k hk)
    · exact .inr x1
  · exact ((Tn.of_grown hgr).mono (fun k _ e => .inl e)).set _ _ (fun _ => .inr rfl)
  · by_cases ej : j = 2 * i + 1
    · subst ej
      rw [if_pos rfl, show 2 * i + 1 = i * 2 + 1 by omega]
      exact cell_same (by rw [cg, hc]; rfl)
    · rw [if_neg ej, cell_ne (by omega), cg]
  · obtain ⟨_, x2⟩ := RI.labs hx3 hi hc
    rcases hown with e | e
    · exact .inl (x2 k (by rw [← e]; exact hk))
    · right; rw [e] at hk; cases hk; exact Nat.le_refl _

/-- a byte of the file is written -/
theorem RI.byte (h : RI w wr q L N S fl d (.slice (some ⟨g, 0, none⟩) nl cap) tv fd i nm l pl) (hi : i < fl.length) (hn : fl.length = nl) (hfd : fd < 19) (hpl : pl < l.length) (hl : l.length ≤ N) (c : UInt8) :
    ∃ gb cb u, wr.cell? ⟨g, i * 2 + 1, none⟩ = some (.slice (some ⟨gb, 0, none⟩) l.length cb) ∧ wr.cell? ⟨gb, pl, none⟩ = some u ∧ wr.frozen? ⟨gb, pl, none⟩ = false ∧ gb < wr.heap.size ∧ l.length ≤ cb ∧ cb ≤ 9223372036854775807 ∧
      RI w (wr.setCell ⟨gb, pl, none⟩ (.int .u8 (c.toNat : Int))) q L N S fl d (.slice (some ⟨g, 0, none⟩) nl cap) tv fd i nm (l.set pl c) pl := by
  obtain ⟨c0, _, _, _, _, ⟨ab, cb, hc, hbr, hcb, hcm⟩, hfz, hq, hd, hg, hgq, hgd, hqd⟩ := h.facts hi hn hfd
  obtain ⟨gb, cb', e, hgb, _, _, hf⟩ := hbr.rw.pos (by omega)
  simp only [Value.slice.injEq] at e
  obtain ⟨rfl, _, rfl⟩ := e
  have hx0 := h
  obtain ⟨L2, bv2, hx, _, _⟩ := hx0
  obtain ⟨lg, lb⟩ := RI.labs hx hi hc
  have hgg : g ≠ gb := fun e => by have := lb gb rfl; rw [← e, lg] at this; cases this
  have hrow : RW wr 2 (.slice (some ⟨g, 0, none⟩) nl cap) nl := by have := hx.row; rw [List.length_set, hn] at this; exact this
  have hbr2 : BR (wr.setCell ⟨gb, pl, none⟩ (.int .u8 (c.toNat : Int))) (.slice (some ⟨gb, 0, none⟩) l.length cb) (l.set pl c) := by
    refine ⟨by rw [List.length_set]; exact RW.set hbr.rw pl _, fun j hj => ?_⟩
    rw [List.length_set] at hj
    show World.cell? _ _ = _
    have h0 : wr.cell? ⟨gb, j, none⟩ = some (.int .u8 (l[j].toNat : Int)) := hbr.at' j hj
    by_cases ej : j = pl
    · subst ej
      rw [cell_same (by rw [h0]; rfl)]
      simp
    · rw [cell_ne (by omega), h0, List.getElem_set, if_neg (fun x => ej x.symm)]
  refine ⟨gb, cb, _, hc, hbr.at' pl hpl, hf pl (by omega), hgb, hcb, hcm, ?_⟩
  refine h.turn hi hn (.slice (some ⟨gb, 0, none⟩) l.length cb) (l.set pl c) (by simp) (fun k => k = gb) (fun L3 bv3 hx3 k hk _ => ?_) ((Tn.refl _ _).set _ _ (fun _ => rfl)) (hrow.kept (fun k e => by cases e; exact Below.heap_setCell _ _ _ _ hgg)) (fun j hj => ?_) hbr2 (fun L3 bv3 hx3 k hk => ?_) (by rw [List.length_set]; exact hl)
  · subst hk; exact .inl ((RI.labs hx3 hi hc).2 _ rfl)
  · rw [cell_ne (.inl hgg)]
    by_cases ej : j = 2 * i + 1
    · subst ej; rw [if_pos rfl, show 2 * i + 1 = i * 2 + 1 by omega]; exact hc
    · rw [if_neg ej]
  · exact .inl ((RI.labs hx3 hi hc).2 _ hk)

/-- the append of a 0, at the operation of a region that draws -/
theorem step_pad {ops : Array Oper} {o : Oper} {a : Act} {W : World} {K : Act → World → Prop} {Q : Exit → Act → World → Prop} {E : Prop} (hg : o.guard = none) (sx xx : Operand) (hop : o.op = .call { callee := .builtin .append, args := #[sx, xx], argTypes := #[64, 64] }) (hty : o.type = 64)
    (h : RI w W q L N S fl d (.slice (some ⟨g, 0, none⟩) nl cap) tv fd i nm l pl) (hi : i < fl.length) (hn : fl.length = nl) (hfd : fd < 19) (hN : N ≤ 1099511627776) (hl : l.length + 1 ≤ N) (ab : Option Addr) (cb : Nat) (hc : W.cell? ⟨g, i * 2 + 1, none⟩ = some (.slice ab l.length cb)) (b : Nat) (hb : W.cell? ⟨b, 0, none⟩ = some (.int .u8 0))
    (hs : a.eval sx = .slice ab l.length cb) (hx : a.eval xx = .slice (some ⟨b, 0, none⟩) 1 1)
    (hK : ∀ a' c' wa, wa.cell? ⟨q, 0, none⟩ = some (.slice (some ⟨g, 0, none⟩) nl cap) → wa.cell? ⟨g, i * 2 + 1, none⟩ = some (.slice ab l.length cb) → wa.frozen? ⟨g, i * 2 + 1, none⟩ = false → q < wa.heap.size → g < wa.heap.size →
      RI w (wa.setCell ⟨g, i * 2 + 1, none⟩ (.slice a' (l.length + 1) c')) q L N S fl d (.slice (some ⟨g, 0, none⟩) nl cap) tv fd i nm (l ++ [0]) pl → K (a.put o.dst (.slice a' (l.length + 1) c')) wa) :
    if Region.wanted o (yielded ops a.tmps) = true then Oper.wp Try.prog o a W K Q else E := by
  have hw : Region.wanted o (yielded ops a.tmps) = true := by simp [Region.wanted, hg]
  rw [if_pos hw]
  obtain ⟨a', c', wa, hr, k1, k2, k3, k4, k5, hend⟩ := h.pad hi hn hfd hN hl ab cb hc b hb
  have hk := hK a' c' wa k1 k2 k3 k4 k5 hend
  unfold Oper.wp
  simp [execOp, hop, hty, resolve, invoke, builtin, hs, hx, hr, Result.andThen]
  exact hk
end Go.Proofs.Ytkbdgdcicflocaa
