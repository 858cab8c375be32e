/-
  How a world and a list of steps that are handed in are read.
-/
import Derived.Test.YtkbdgdcicflocaaParts
import Derived.Test.YtkbdgdcicflocaaPlays
import Derived.Deep.SlicePairs
import Derived.Lib.SmallJoins
namespace Go.Proofs.Ytkbdgdcicflocaa
set_option linter.unusedSimpArgs false
set_option linter.unusedVariables false
open Go.ChangeShapes Go.WideShapes Go.ChangeAt Go.RowKit Go.Joins

theorem Try.cellsFile : Try.prog.cellsOf 32 = 2 := by kernel_rfl
theorem Try.cellsWorld : Try.prog.cellsOf 24 = 2 := by kernel_rfl
theorem Try.cellsStep : Try.prog.cellsOf 36 = 5 := by kernel_rfl
theorem Try.cellsI64' : Try.prog.cellsOf 2 = 1 := by kernel_rfl
theorem Try.cellsU64' : Try.prog.cellsOf 34 = 1 := by kernel_rfl

theorem bulk_one {H : Type} (d : DataW H) : 1 ≤ Rows.uptoBulk d := by
  cases d with
  | lit l => cases l <;> simp [Rows.uptoBulk]
  | _ => simp [Rows.uptoBulk]
theorem bulk_len {H : Type} (l : List (DataW H)) : l.length ≤ Rows.uptoBulkAll l := by
  induction l with
  | nil => exact Nat.zero_le _
  | cons d r ih => have := bulk_one d; simp only [Rows.uptoBulkAll, List.length_cons]; omega
theorem bulk_mem {H : Type} {d : DataW H} {l : List (DataW H)} (h : d ∈ l) : Rows.uptoBulk d ≤ Rows.uptoBulkAll l := by
  induction l with
  | nil => cases h
  | cons e r ih =>
    simp only [Rows.uptoBulkAll]
    rcases List.mem_cons.1 h with rfl | h
    · omega
    · have := ih h; omega

def bv (v : Value) : ByteArray := match v with | .string s => s | _ => ⟨#[]⟩
def zv (v : Value) : Int := match v with | .int _ n => n | _ => 0

section
variable {H : Type} {enc : TypeId × Value → H} {W : World}

theorem open_files {fuel : Nat} {v : Value} {x : DataW H × List MemPlace} (h : DataW.trod enc Try.prog W 0 (fun _ => true) true fuel 22 [v] = some x) :
    ∃ (a : Option Addr) (n c : Nat) (fl : List (ByteArray × ByteArray)), v = .slice a n c ∧ n + 1 ≤ Rows.uptoBulk x.1 ∧ FilesAt W a n (Rows.uptoBulk x.1) fl := by
  rcases Go.Deep.open_slice_pairs Try.underlying22 Try.underlying32 Try.cellsFile rfl rfl Try.cellsStr Try.cellsStr h with ⟨hcs, hx⟩ | ⟨a', len, cap, m, nn, V0, V1, D0, D1, P0, P1, hcs, _, hl, hm, hz, hx, hall⟩
  · have hv : v = .slice none 0 0 := by simpa using hcs
    subst hv
    exact ⟨none, 0, 0, [], rfl, by rw [hx]; simp [Rows.uptoBulk], rfl, fun h => by omega, fun j hj => by simp at hj⟩
  · have hv : v = .slice (some a') len cap := by simpa using hcs
    subst hv
    simp only [if_true] at hz
    subst hz
    have hd : x.1 = .slice ((List.range len).map fun i => .agg [D0 i, D1 i]) ((List.range (m - len)).map fun j => .agg [D0 (len + j), D1 (len + j)]) := by rw [hx]
    have hs : ∀ i, i < len → ∃ s t, V0 i = .string s ∧ V1 i = .string t ∧ D0 i = .lit (.string s.data.toList) ∧ D1 i = .lit (.string t.data.toList) ∧ s.size ≤ maxLen := fun i hi => by
      obtain ⟨_, _, h0, h1⟩ := hall i (by omega)
      obtain ⟨s, e0, x0, l0⟩ := DataW.trod_string Try.underlying9 h0
      obtain ⟨t, e1, x1, _⟩ := DataW.trod_string Try.underlying9 h1
      refine ⟨s, t, by simpa using e0, by simpa using e1, congrArg Prod.fst x0, congrArg Prod.fst x1, l0⟩
    refine ⟨some a', len, m, (List.range len).map (fun i => (bv (V0 i), bv (V1 i))), rfl, ?_, by simp, fun h0 => ?_, fun j hj => ?_⟩
    · rw [hd]
      have := bulk_len ((List.range len).map fun i => DataW.agg [D0 i, D1 i])
      simp only [List.length_map, List.length_range] at this
      simp only [Rows.uptoBulk]
      omega
    · obtain ⟨g, off, e, hg, hc⟩ := row_at (W := W) (a := a') (n := len * 2) (fun j => if j % 2 = 0 then V0 (j / 2) else V1 (j / 2)) (by omega) (fun j hj => by
        obtain ⟨c0, c1, _, _⟩ := hall (j / 2) (by omega)
        split
        · rw [show j / 2 * 2 = j by omega] at c0; exact c0
        · rw [show j / 2 * 2 + 1 = j by omega] at c1; exact c1)
      refine ⟨g, off, e, hg, fun j hj => ?_⟩
      have hjl : j < len := by simpa using hj
      obtain ⟨s, t, e0, e1, _⟩ := hs j hjl
      have h0 := hc (j * 2) (by omega)
      have h1 := hc (j * 2 + 1) (by omega)
      rw [if_pos (by omega), show j * 2 / 2 = j by omega, e0] at h0
      rw [if_neg (by omega), show (j * 2 + 1) / 2 = j by omega, e1] at h1
      simp only [List.getElem_map, List.getElem_range, e0, e1, bv]
      exact ⟨h0, h1⟩
    · have hjl : j < len := by simpa using hj
      obtain ⟨s, t, e0, e1, d0, d1, ls⟩ := hs j hjl
      simp only [List.getElem_map, List.getElem_range, e0, e1, bv]
      refine ⟨ls, ?_⟩
      have := bulk_mem (d := DataW.agg [D0 j, D1 j]) (l := (List.range len).map fun i => DataW.agg [D0 i, D1 i]) (List.mem_map.2 ⟨j, by simpa using hjl, rfl⟩)
      rw [d0, d1] at this
      simp only [Rows.uptoBulk, Rows.uptoBulkAll] at this
      have e : t.data.toList.length = t.size := by simp
      rw [hd]
      simp only [Rows.uptoBulk]
      omega

theorem tot5_bulk (xs : List Stp) (ds : List (DataW H)) (hl : xs.length = ds.length) (h : ∀ i (hi : i < xs.length) (hj : i < ds.length), xs[i].text.size + 2 ≤ Rows.uptoBulk ds[i]) : tot5 xs xs.length ≤ 2 * Rows.uptoBulkAll ds := by
  unfold tot5
  rw [List.take_length]
  induction xs generalizing ds with
  | nil => simp
  | cons x r ih =>
    cases ds with
    | nil => simp at hl
    | cons d e =>
      have h0 := h 0 (by simp) (by simp)
      have := ih e (by simpa using hl) (fun i hi hj => h (i + 1) (by rw [List.length_cons]; omega) (by rw [List.length_cons]; omega))
      simp only [List.map_cons, List.sum_cons, Rows.uptoBulkAll, List.getElem_cons_zero] at h0 ⊢
      omega

set_option maxRecDepth 100000 in
theorem open_step {n : Nat} {cs : List Value} {x : DataW H × List MemPlace} (h : DataW.trod enc Try.prog W 0 (fun _ => true) true n 36 cs = some x) :
    ∃ k f m nm tx, cs = [.int .i64 k, .int .i64 f, .int .u64 m, .string nm, .string tx] ∧ -9223372036854775808 ≤ k ∧ k ≤ 9223372036854775807 ∧ -9223372036854775808 ≤ f ∧ f ≤ 9223372036854775807 ∧ 0 ≤ m ∧ m ≤ 18446744073709551615 ∧ nm.size ≤ maxLen ∧ tx.size + 2 ≤ Rows.uptoBulk x.1 := by
  obtain ⟨xs, k, hk, hxy, hcl, hxl, hf⟩ := DataW.trod_struct Try.underlying36 h
  rw [Try.cellsStep] at hcl
  match xs, hxl, cs, hcl with
  | [y0, y1, y2, y3, y4], _, [v0, v1, v2, v3, v4], _ =>
    have g0 := hf 0 _ rfl
    have g1 := hf 1 _ rfl
    have g2 := hf 2 _ rfl
    have g3 := hf 3 _ rfl
    have g4 := hf 4 _ rfl
    simp only [Try.cellsI64, Try.cellsI64', Try.cellsU64', Try.cellsStr, List.drop, List.take, List.getElem?_cons_zero, List.getElem?_cons_succ] at g0 g1 g2 g3 g4
    obtain ⟨a0, e0, x0, w0⟩ := DataW.trod_int Try.underlying3 g0
    obtain ⟨a1, e1, x1, w1⟩ := DataW.trod_int Try.underlying2 g1
    obtain ⟨a2, e2, x2, w2⟩ := DataW.trod_int Try.underlying34 g2
    obtain ⟨a3, e3, x3, w3⟩ := DataW.trod_string Try.underlying9 g3
    obtain ⟨a4, e4, x4, w4⟩ := DataW.trod_string Try.underlying9 g4
    obtain rfl : v0 = .int .i64 a0 := by simpa [Try.cellsI64] using e0
    obtain rfl : v1 = .int .i64 a1 := by simpa [Try.cellsI64'] using e1
    obtain rfl : v2 = .int .u64 a2 := by simpa [Try.cellsU64'] using e2
    obtain rfl : v3 = .string a3 := by simpa [Try.cellsStr] using e3
    obtain rfl : v4 = .string a4 := by simpa [Try.cellsStr] using e4
    have b0 : -9223372036854775808 ≤ a0 ∧ a0 ≤ 9223372036854775807 := by simpa [Lit.wf, IntKind.min, IntKind.max, IntKind.signed, IntKind.bits] using w0
    have b1 : -9223372036854775808 ≤ a1 ∧ a1 ≤ 9223372036854775807 := by simpa [Lit.wf, IntKind.min, IntKind.max, IntKind.signed, IntKind.bits] using w1
    have b2 : 0 ≤ a2 ∧ a2 ≤ 18446744073709551615 := by simpa [Lit.wf, IntKind.min, IntKind.max, IntKind.signed, IntKind.bits] using w2
    refine ⟨a0, a1, a2, a3, a4, rfl, b0.1, b0.2, b1.1, b1.2, b2.1, b2.2, w3, ?_⟩
    rw [hxy, x4]
    have e : a4.data.toList.length = a4.size := by simp
    simp only [List.map_cons, List.map_nil, Rows.uptoBulk, Rows.uptoBulkAll]
    omega

instance : Inhabited Stp := ⟨⟨0, 0, 0, ⟨#[]⟩, ⟨#[]⟩⟩⟩
set_option maxRecDepth 100000 in
theorem open_steps {v : Value} {fuel : Nat} {x : DataW H × List MemPlace} (h : DataW.trod enc Try.prog W 0 (fun _ => true) true fuel 25 [v] = some x) :
    ∃ (a : Option Addr) (n c : Nat) (xs : List Stp), v = .slice a n c ∧ n + 1 ≤ Rows.uptoBulk x.1 ∧ StepsAt W a n xs ∧ tot5 xs n ≤ 2 * Rows.uptoBulk x.1 := by
  rcases Go.Deep.open_slice Try.underlying25 h with ⟨hcs, hx⟩ | ⟨a', len, cap, m, nn, D, Pl, hcs, _, hl, hm, hz, hx, hall⟩
  · have hv : v = .slice none 0 0 := by simpa using hcs
    subst hv
    exact ⟨none, 0, 0, [], rfl, by rw [hx]; simp [Rows.uptoBulk], ⟨rfl, fun x hx => (by cases hx), fun h => by omega⟩, by simp [tot5]⟩
  · have hv : v = .slice (some a') len cap := by simpa using hcs
    subst hv
    simp only [if_true] at hz
    subst hz
    rw [Try.cellsStep] at hall
    have hd : x.1 = .slice ((List.range len).map D) ((List.range (m - len)).map fun j => D (len + j)) := by rw [hx]
    have each : ∀ i, i < m → ∃ y : Stp, y.ok ∧ y.text.size + 2 ≤ Rows.uptoBulk (D i) ∧ W.cell? (a'.add (i * 5)) = some (.int .i64 y.kind) ∧ W.cell? (a'.add (i * 5 + 1)) = some (.int .i64 y.fd) ∧ W.cell? (a'.add (i * 5 + 2)) = some (.int .u64 (y.n : Int)) ∧ W.cell? (a'.add (i * 5 + 3)) = some (.string y.name) ∧ W.cell? (a'.add (i * 5 + 4)) = some (.string y.text) := fun i hi => by
      obtain ⟨cs', h1, h2⟩ := hall i hi
      obtain ⟨k, f, mm, nm, tx, rfl, k0, k1, f0, f1, m0, m1, hnm, htx⟩ := open_step h2
      obtain ⟨_, hlen, hcell⟩ := World.cells?_some h1
      have e0 := hcell 0 (by omega)
      have e1 := hcell 1 (by omega)
      have e2 := hcell 2 (by omega)
      have e3 := hcell 3 (by omega)
      have e4 := hcell 4 (by omega)
      rw [Go.Deep.add_add] at e0 e1 e2 e3 e4
      exact ⟨⟨k, f, mm.toNat, nm, tx⟩, ⟨k0, k1, f0, f1, by simp only; omega, hnm⟩, htx, by simpa using e0, by simpa using e1, by simpa [Int.toNat_of_nonneg m0] using e2, by simpa using e3, by simpa using e4⟩
    obtain ⟨Y, hY⟩ := Go.Deep.choose_lt (α := Stp) each
    refine ⟨some a', len, m, (List.range len).map Y, rfl, ?_, ⟨by simp, fun y hy => ?_, fun h0 => ?_⟩, ?_⟩
    · rw [hd]
      have := bulk_len ((List.range len).map D)
      simp only [List.length_map, List.length_range] at this
      simp only [Rows.uptoBulk]
      omega
    · obtain ⟨i, hi, rfl⟩ := List.mem_map.1 hy
      exact (hY i (by have := List.mem_range.1 hi; omega)).1
    · obtain ⟨g, off, e, hg, hc⟩ := row_at (W := W) (a := a') (n := len * 5) (fun j => if j % 5 = 0 then .int .i64 (Y (j / 5)).kind else if j % 5 = 1 then .int .i64 (Y (j / 5)).fd else if j % 5 = 2 then .int .u64 ((Y (j / 5)).n : Int) else if j % 5 = 3 then .string (Y (j / 5)).name else .string (Y (j / 5)).text) (by omega) (fun j hj => by
        obtain ⟨_, _, c0, c1, c2, c3, c4⟩ := hY (j / 5) (by omega)
        split
        · rw [show j / 5 * 5 = j by omega] at c0; exact c0
        · split
          · rw [show j / 5 * 5 + 1 = j by omega] at c1; exact c1
          · split
            · rw [show j / 5 * 5 + 2 = j by omega] at c2; exact c2
            · split
              · rw [show j / 5 * 5 + 3 = j by omega] at c3; exact c3
              · rw [show j / 5 * 5 + 4 = j by omega] at c4; exact c4)
      refine ⟨g, off, e, hg, fun j hj => ?_⟩
      have hjl : j < len := by simpa using hj
      simp only [List.getElem_map, List.getElem_range]
      have h0 := hc (j * 5) (by omega)
      have h1 := hc (j * 5 + 1) (by omega)
      have h2 := hc (j * 5 + 2) (by omega)
      have h3 := hc (j * 5 + 3) (by omega)
      have h4 := hc (j * 5 + 4) (by omega)
      rw [if_pos (by omega), show j * 5 / 5 = j by omega] at h0
      rw [if_neg (by omega), if_pos (by omega), show (j * 5 + 1) / 5 = j by omega] at h1
      rw [if_neg (by omega), if_neg (by omega), if_pos (by omega), show (j * 5 + 2) / 5 = j by omega] at h2
      rw [if_neg (by omega), if_neg (by omega), if_neg (by omega), if_pos (by omega), show (j * 5 + 3) / 5 = j by omega] at h3
      rw [if_neg (by omega), if_neg (by omega), if_neg (by omega), if_neg (by omega), show (j * 5 + 4) / 5 = j by omega] at h4
      exact ⟨h0, h1, h2, h3, h4⟩
    · have h1 := tot5_bulk ((List.range len).map Y) ((List.range len).map D) (by simp) (fun i hi hj => by
        simp only [List.getElem_map, List.getElem_range]
        exact (hY i (by simp at hi; omega)).2.1)
      simp only [List.length_map, List.length_range] at h1
      rw [hd]
      simp only [Rows.uptoBulk]
      omega
end
end Go.Proofs.Ytkbdgdcicflocaa
