/-
  How a thing, a graph, a list of bytes and a list of words that are handed in are read.
-/
import Derived.Test.YtlkbnjdhokjfnaaRows
import Derived.Test.YtlkbnjdhokjfnaaHBase
import Derived.ProofKit
import Derived.JoinedCond
import Derived.Deep.SlicePairs
import Derived.Lib.SmallJoins
namespace Go.Proofs.Ytlkbnjdhokjfnaa
set_option linter.unusedSimpArgs false
set_option linter.unusedVariables false
open Go.ChangeShapes Go.WideShapes Go.ChangeAt Go.RowKit Go.Joins

theorem Try.cellsStr : Try.prog.cellsOf 9 = 1 := by kernel_rfl
theorem Try.cellsInt : Try.prog.cellsOf 3 = 1 := by kernel_rfl
theorem Try.cellsI64 : Try.prog.cellsOf 2 = 1 := by kernel_rfl
theorem Try.cellsRef : Try.prog.cellsOf 61 = 2 := by kernel_rfl
theorem Try.cellsRefs : Try.prog.cellsOf 22 = 1 := by kernel_rfl
theorem Try.cellsThing : Try.prog.cellsOf 24 = 4 := by kernel_rfl
theorem Try.cellsGraph : Try.prog.cellsOf 27 = 2 := by kernel_rfl

theorem bulk_one {H : Type} (d : DataW H) : 1 ≤ Rows.uptoBulk d := by
  cases d with
  | lit l => cases l <;> simp [Rows.uptoBulk]
  | _ => simp [Rows.uptoBulk]
theorem bulk_len {H : Type} (l : List (DataW H)) : l.length ≤ Rows.uptoBulkAll l := by
  induction l with
  | nil => exact Nat.zero_le _
  | cons d r ih => have := bulk_one d; simp only [Rows.uptoBulkAll, List.length_cons]; omega
theorem bulk_sum {H α : Type} (wt : α → Nat) (f : Nat → α) (D : Nat → DataW H) (l : List Nat) (h : ∀ i ∈ l, wt (f i) ≤ Rows.uptoBulk (D i)) : ((l.map f).map wt).sum ≤ Rows.uptoBulkAll (l.map D) := by
  induction l with
  | nil => exact Nat.zero_le _
  | cons i r ih =>
    have h0 := h i (List.mem_cons_self ..)
    have := ih (fun j hj => h j (List.mem_cons_of_mem _ hj))
    simp only [List.map_cons, List.sum_cons, Rows.uptoBulkAll]
    omega

theorem sum_mem {n : Nat} {l : List Nat} (h : n ∈ l) : n ≤ l.sum := by
  induction l with
  | nil => cases h
  | cons m r ih =>
    simp only [List.sum_cons]
    rcases List.mem_cons.1 h with rfl | h
    · omega
    · have := ih h; omega

/-- a row whose cells are known, by its block -/
theorem row_cells {W : World} {a : Addr} {n : Nat} (f : Nat → Option Value) (h0 : 0 < n) (hs : ∀ i, i < n → (f i).isSome = true) (hc : ∀ i, i < n → W.cell? (a.add i) = f i) : ∃ g off, a = ⟨g, off, none⟩ ∧ g < W.heap.size ∧ ∀ j, j < n → W.cell? ⟨g, off + j, none⟩ = f j := by
  obtain ⟨b, off, spot⟩ := a
  obtain ⟨x, hx⟩ := Option.isSome_iff_exists.1 (hs 0 h0)
  have hc0 := hc 0 h0
  rw [hx] at hc0
  have hspot : spot = none := by simpa [Addr.add] using World.cell?_spot hc0
  subst hspot
  have hadd : ∀ j, (⟨b, off, none⟩ : Addr).add j = ⟨b, off + j, none⟩ := fun j => by simp [Addr.add]
  rw [hadd] at hc0
  exact ⟨b, off, rfl, World.block_lt_of_cell? _ _ hc0, fun j hj => by rw [← hadd]; exact hc j hj⟩

section
variable {H : Type} {enc : TypeId × Value → H} {W : World}

theorem open_ld {α : Type} [Inhabited α] {size : Nat} {en : α → List Value} {t e : TypeId} (ht : Try.prog.underlying t = some (.slice e)) (hC : Try.prog.cellsOf e = size) (hs : 0 < size) (hen : ∀ y, (en y).length = size) (Q : α → Prop) (wt : α → Nat)
    (each : ∀ n cs x, DataW.trod enc Try.prog W 0 (fun _ => true) true n e cs = some x → ∃ y : α, cs = en y ∧ Q y ∧ wt y ≤ Rows.uptoBulk x.1)
    {fuel : Nat} {v : Value} {x : DataW H × List MemPlace} (h : DataW.trod enc Try.prog W 0 (fun _ => true) true fuel t [v] = some x) :
    ∃ l : List α, LD size en W v l ∧ (∀ y ∈ l, Q y) ∧ l.length + 1 ≤ Rows.uptoBulk x.1 ∧ (l.map wt).sum + 1 ≤ Rows.uptoBulk x.1 := by
  rcases Go.Deep.open_slice ht h with ⟨hcs, hx⟩ | ⟨a, len, cap, m, nn, D, Pl, hcs, _, hl, hm, hz, hx, hall⟩
  · have hv : v = .slice none 0 0 := by simpa using hcs
    subst hv
    exact ⟨[], LD.nil _ _ _, (fun y hy => by cases hy), by rw [hx]; simp [Rows.uptoBulk], by rw [hx]; simp [Rows.uptoBulk]⟩
  · have hv : v = .slice (some a) len cap := by simpa using hcs
    subst hv
    simp only [if_true] at hz
    subst hz
    rw [hC] at hall
    have hd : x.1 = .slice ((List.range len).map D) ((List.range (m - len)).map fun j => D (len + j)) := by rw [hx]
    have each' : ∀ i, i < m → ∃ y : α, Q y ∧ wt y ≤ Rows.uptoBulk (D i) ∧ ∀ j, j < size → W.cell? (a.add (i * size + j)) = (en y)[j]? := fun i hi => by
      obtain ⟨cs', h1, h2⟩ := hall i hi
      obtain ⟨y, rfl, hq, hb⟩ := each _ _ _ h2
      obtain ⟨_, hlen, hcell⟩ := World.cells?_some h1
      refine ⟨y, hq, hb, fun j hj => ?_⟩
      have := hcell j hj
      rw [Go.Deep.add_add] at this
      exact this
    obtain ⟨Y, hY⟩ := Go.Deep.choose_lt (α := α) each'
    have hsum := bulk_sum wt Y D (List.range len) (fun i hi => (hY i (by have := List.mem_range.1 hi; omega)).2.1)
    have hlen := bulk_len ((List.range len).map D)
    simp only [List.length_map, List.length_range] at hlen
    refine ⟨(List.range len).map Y, ⟨some a, m, by simp, by simpa using hl, by unfold maxLen at hm; omega, fun h0 => ?_⟩, fun y hy => ?_, by rw [hd]; simp only [Rows.uptoBulk, List.length_map, List.length_range]; omega, by rw [hd]; simp only [Rows.uptoBulk]; omega⟩
    · simp only [List.length_map, List.length_range] at h0
      have hdm : ∀ j, j < len * size → j / size < len ∧ j % size < size := fun j hj => ⟨(Nat.div_lt_iff_lt_mul hs).2 hj, Nat.mod_lt _ hs⟩
      obtain ⟨g, off, e, hg, hc⟩ := row_cells (W := W) (a := a) (n := len * size) (fun j => (en (Y (j / size)))[j % size]?) (Nat.mul_pos h0 hs) (fun j hj => by
        rw [List.getElem?_eq_getElem (by rw [hen]; exact (hdm j hj).2)]; rfl) (fun j hj => by
        have := (hY (j / size) (by have := (hdm j hj).1; omega)).2.2 (j % size) (hdm j hj).2
        rw [Nat.mul_comm, Nat.div_add_mod] at this
        exact this)
      subst e
      refine ⟨g, off, rfl, hg, fun i hi j hj => ?_⟩
      have hil : i < len := by simpa using hi
      have hlt : i * size + j < len * size := by
        have := Nat.mul_le_mul_right size (show i + 1 ≤ len by omega)
        rw [Nat.add_mul] at this; omega
      rw [hc _ hlt]
      have e1 : (i * size + j) / size = i := by rw [Nat.mul_comm, Nat.mul_add_div hs, Nat.div_eq_of_lt hj, Nat.add_zero]
      have e2 : (i * size + j) % size = j := by rw [Nat.mul_comm, Nat.mul_add_mod, Nat.mod_eq_of_lt hj]
      simp only [e1, e2, List.getElem_map, List.getElem_range]
    · obtain ⟨i, hi, rfl⟩ := List.mem_map.1 hy
      exact (hY i (by have := List.mem_range.1 hi; omega)).1

theorem i64_of {a : Int} (w0 : (Lit.int .i64 a).wf = true) : i64ok a := by simpa [i64ok, Lit.wf, IntKind.min, IntKind.max, IntKind.signed, IntKind.bits] using w0

instance : Inhabited Th := ⟨⟨0, 0, ⟨#[]⟩, .slice none 0 0, []⟩⟩

set_option maxRecDepth 100000 in
theorem open_ref {n : Nat} {cs : List Value} {x : DataW H × List MemPlace} (h : DataW.trod enc Try.prog W 0 (fun _ => true) true n 61 cs = some x) :
    ∃ r : Rf, cs = eR r ∧ (i64ok r.1 ∧ i64ok r.2) ∧ 3 ≤ Rows.uptoBulk x.1 := by
  obtain ⟨xs, k, hk, hxy, hcl, hxl, hf⟩ := DataW.trod_struct Try.underlying61 h
  rw [Try.cellsRef] at hcl
  match xs, hxl, cs, hcl with
  | [y0, y1], _, [v0, v1], _ =>
    have g0 := hf 0 _ rfl
    have g1 := hf 1 _ rfl
    simp only [Try.cellsInt, Try.cellsI64, List.drop, List.take, List.getElem?_cons_zero, List.getElem?_cons_succ] at g0 g1
    obtain ⟨a0, e0, x0, w0⟩ := DataW.trod_int Try.underlying3 g0
    obtain ⟨a1, e1, x1, w1⟩ := DataW.trod_int Try.underlying2 g1
    obtain rfl : v0 = .int .i64 a0 := by simpa [Try.cellsInt] using e0
    obtain rfl : v1 = .int .i64 a1 := by simpa [Try.cellsI64] using e1
    refine ⟨(a0, a1), rfl, ⟨i64_of w0, i64_of w1⟩, ?_⟩
    rw [hxy, x0, x1]
    simp [Rows.uptoBulk, Rows.uptoBulkAll]

theorem open_refs {fuel : Nat} {v : Value} {x : DataW H × List MemPlace} (h : DataW.trod enc Try.prog W 0 (fun _ => true) true fuel 22 [v] = some x) :
    ∃ l : List Rf, LD 2 eR W v l ∧ (∀ r ∈ l, i64ok r.1 ∧ i64ok r.2) ∧ l.length + 1 ≤ Rows.uptoBulk x.1 := by
  obtain ⟨l, h1, h2, h3, _⟩ := open_ld (enc := enc) (W := W) Try.underlying22 Try.cellsRef (by omega) (fun y => rfl) (fun r : Rf => i64ok r.1 ∧ i64ok r.2) (fun _ => 1) (fun n cs x h => by
    obtain ⟨r, e, hq, hb⟩ := open_ref h
    exact ⟨r, e, hq, by omega⟩) h
  exact ⟨l, h1, h2, h3⟩

/-- how much a thing that is handed in holds -/
def Th.wt (t : Th) : Nat := t.bytes.size + t.refs.length + 1

set_option maxRecDepth 100000 in
theorem open_thing {n : Nat} {cs : List Value} {x : DataW H × List MemPlace} (h : DataW.trod enc Try.prog W 0 (fun _ => true) true n 24 cs = some x) :
    ∃ t : Th, cs = eT t ∧ (LD 2 eR W t.rv t.refs ∧ i64ok t.kind ∧ i64ok t.tag ∧ ∀ r ∈ t.refs, i64ok r.1 ∧ i64ok r.2) ∧ t.wt ≤ Rows.uptoBulk x.1 := by
  obtain ⟨xs, k, hk, hxy, hcl, hxl, hf⟩ := DataW.trod_struct Try.underlying24 h
  rw [Try.cellsThing] at hcl
  match xs, hxl, cs, hcl with
  | [y0, y1, y2, y3], _, [v0, v1, v2, v3], _ =>
    have g0 := hf 0 _ rfl
    have g1 := hf 1 _ rfl
    have g2 := hf 2 _ rfl
    have g3 := hf 3 _ rfl
    simp only [Try.cellsInt, Try.cellsStr, Try.cellsRefs, List.drop, List.take, List.getElem?_cons_zero, List.getElem?_cons_succ] at g0 g1 g2 g3
    obtain ⟨a0, e0, x0, w0⟩ := DataW.trod_int Try.underlying3 g0
    obtain ⟨a1, e1, x1, w1⟩ := DataW.trod_int Try.underlying3 g1
    obtain ⟨a2, e2, x2, w2⟩ := DataW.trod_string Try.underlying9 g2
    obtain ⟨l, h1, h2, h3⟩ := open_refs g3
    obtain rfl : v0 = .int .i64 a0 := by simpa [Try.cellsInt] using e0
    obtain rfl : v1 = .int .i64 a1 := by simpa [Try.cellsInt] using e1
    obtain rfl : v2 = .string a2 := by simpa [Try.cellsStr] using e2
    refine ⟨⟨a0, a1, a2, v3, l⟩, rfl, ⟨h1, i64_of w0, i64_of w1, h2⟩, ?_⟩
    rw [hxy, x0, x1, x2]
    have e : a2.data.toList.length = a2.size := by simp
    simp only [List.map_cons, List.map_nil, Rows.uptoBulk, Rows.uptoBulkAll, Th.wt]
    omega

theorem open_graph {n n' : Nat} {tv rv : Value} {x y : DataW H × List MemPlace} (hx : DataW.trod enc Try.prog W 0 (fun _ => true) true n 25 [tv] = some x) (hy : DataW.trod enc Try.prog W 0 (fun _ => true) true n' 22 [rv] = some y)
    (hb : Rows.uptoBulk x.1 + Rows.uptoBulk y.1 ≤ 1048576) : ∃ ts rs, GA W tv rv ts rs ∧ (ts.map Th.wt).sum + rs.length ≤ 1048576 := by
  obtain ⟨ts, h1, h2, h3, h4⟩ := open_ld (enc := enc) (W := W) Try.underlying25 Try.cellsThing (by omega) (fun y => rfl) (fun t : Th => LD 2 eR W t.rv t.refs ∧ i64ok t.kind ∧ i64ok t.tag ∧ ∀ r ∈ t.refs, i64ok r.1 ∧ i64ok r.2) Th.wt (fun n cs x h => open_thing h) hx
  obtain ⟨rs, k1, k2, k3⟩ := open_refs hy
  have hw : ∀ t ∈ ts, t.wt ≤ (ts.map Th.wt).sum := fun t ht => sum_mem (List.mem_map_of_mem ht)
  refine ⟨ts, rs, ⟨h1, fun t ht => ?_, k1, k2, by omega, by omega⟩, by omega⟩
  obtain ⟨q1, q2, q3, q4⟩ := h2 t ht
  have : t.bytes.size + t.refs.length + 1 ≤ (ts.map Th.wt).sum := hw t ht
  exact ⟨q1, q2, q3, q4, by omega, by omega⟩
end
end Go.Proofs.Ytlkbnjdhokjfnaa
